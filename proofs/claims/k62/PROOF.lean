import PyProof.Rows.All
import Wide.All
import OpenK.AllK
import Wide.FinOn
import Lean
import PyProof.EqAt
import PyProof.EqKinds
import PyProof.TupleCall
import PySem.Challenge.RW_foreknown_k62_straight_lines_made
set_option Elab.async false
set_option linter.all false
set_option maxRecDepth 100000
abbrev Aa:=PySem.Value->PySem.Shared->Prop
abbrev Ab:=PySem.Str->Option PySem.Value
abbrev Ac:=List (PySem.Addr×PySem.Obj)
abbrev Ad:=List PySem.Str
abbrev Ae:=List PySem.Addr
abbrev Af:=List PySem.Value
def zt:=@PySem.wpAny_bind
def yk:=@PySem.Heap.get?_push_of_some
def zM:=@PySem.wpAny_pure
def ym:=@PySem.Heap.lt_size
def yY:=@PySem.Heap.get?_push_size
def jc:=@PySem.wpAny_field
def wm:=@PySem.wpAny_call_entry
def hW:=@PySem.wpAny_newObj_type
def wn:=@PySem.wpAny_holding
def yP:=@PySem.wpAny_mono
def wK:=@PySem.Heap.get?_update_other
def wy:=@PySem.wpAny_truthy_bool
def jx:=@PySem.lookup_relabel_local
def yo:=@List.getElem?_eq_getElem
def yh:=@List.getElem?_set_ne
def yv:=@List.getElem?_eq_some_iff
def yM:=@List.getElem?_set_self
def ye:=@Nat.le_refl
def yQ:=@List.size_toArray
def jd:=@List.mem_cons_self
def jq:=@List.mem_cons_of_mem
def yN:=@List.mem_append_right
def j4:=@List.mem_append_left
def zx:=@if_pos
def zH:=@if_neg
def jy:=@List.mem_singleton
def yZ:=@List.getElem?_map
def yF:=@List.mem_cons
def jW:=@List.drop_eq_getElem_cons
def y4:=@Nat.le_trans
def q_:=@List.getElem_mem
def wo:=@List.length_append
def jj:=@Nat.zero_le
def ly:=@List.mem_of_getElem?
def jk:=@List.length_map
def wL:=@List.map_append
def jm:=@Nat.lt_of_lt_of_le
def h_:=@or_false
def yJ:=@List.map_cons
def yK:=@Nat.ne_of_lt
def rd:=@List.getElem_of_mem
def ia:=@Bool.and_eq_true
def jE:=@List.mem_map
def ju:=@List.mem_append
def j5:=@List.length_cons
def jI:=@List.nodup_cons
def ib:=@List.getElem?_append_left
def ic:=@List.getElem?_append_right
def jr:=@decide_eq_false
def jJ:=@decide_eq_true
def lz:=@List.drop_of_length_le
def yO:=@List.lookup_cons
def lC:=@List.getElem?_eq_none
def lD:=@List.getElem?_eq_none_iff
def wM:=@List.append_assoc
def yC:=@Ne.symm
def jK:=@Nat.lt_succ_self
namespace L2
open PySem PySem.Spec PyProof.Rows
abbrev Key:=Sum Int Str
def fq:Key->Value->Bool
 | .inl k,v=>Value.isInt k v
 | .inr x,v=>Value.isStrOf x v
def Bp (w:World):Key->Int
 | .inl k=>hashInt k
 | .inr x=>hashStr w x
def wN:∀{k:Key}{v:Value},fq k v=true->(∃i t,k=Sum.inl i/\v=Value.int i t)\/(∃x t,k=Sum.inr x/\v=Value.str x t)
 | .inl i,v,h=>by
  obtain ⟨t,e⟩:=Value.isInt_shape (k:=i) (v:=v) h
  exact .inl ⟨i,t,rfl,e⟩
 | .inr x,v,h=>by
  obtain ⟨t,e⟩:=Value.isStrOf_shape (x:=x) (v:=v) h
  exact .inr ⟨x,t,rfl,e⟩
def Ie (i:Int) (t:Tok):fq (.inl i) (.int i t)=true:=by simp [fq,Value.isInt]
def Ig (x:Str) (t:Tok):fq (.inr x) (.str x t)=true:=by simp [fq,Value.isStrOf]
def Ih (a b:Int):decide ((Sum.inl a:Key)=Sum.inl b)=(a==b):=by
 by_cases e:a=b
 ·subst e;simp
 ·have h:¬(Sum.inl a:Key)=Sum.inl b:=λq=>e (Sum.inl.inj q)
  rw [jr h]
  exact (beq_eq_false_iff_ne.mpr e).symm
def Ii (a b:Str):decide ((Sum.inr a:Key)=Sum.inr b)=decide (a=b):=by
 by_cases e:a=b
 ·subst e;simp
 ·have h:¬(Sum.inr a:Key)=Sum.inr b:=λq=>e (Sum.inr.inj q)
  rw [jr h,jr e]
def Ij (a:Int) (b:Str):decide ((Sum.inl a:Key)=Sum.inr b)=false:=jr (λq=>nomatch q)
def Ik (a:Str) (b:Int):decide ((Sum.inr a:Key)=Sum.inl b)=false:=jr (λq=>nomatch q)
def bf (prog:Program) (w:World):PySem.KeyKind prog w Key where
 is:=fq
 hash:=Bp w
 inj:=λv a b ha hb=>by
  rcases wN ha with ⟨i,t,rfl,rfl⟩|⟨x,t,rfl,rfl⟩
  ·rcases wN hb with ⟨j,u,rfl,e⟩|⟨y,u,rfl,e⟩
   ·injection e with e1 _;rw [e1]
   ·exact nomatch e
  ·rcases wN hb with ⟨j,u,rfl,e⟩|⟨y,u,rfl,e⟩
   ·exact nomatch e
   ·injection e with e1 _;rw [e1]
 byValue:=λk v h=>by
  rcases wN h with ⟨i,t,rfl,rfl⟩|⟨x,t,rfl,rfl⟩<;>rfl
 pyHash:=λhv h=>by
  rcases wN hv with ⟨i,t,rfl,rfl⟩|⟨x,t,rfl,rfl⟩
  ·exact wpAny_pyHash_int h
  ·exact wpAny_pyHash_str h
 eqBool:=λhu hv h=>by
  rcases wN hu with ⟨i,t,rfl,rfl⟩|⟨x,t,rfl,rfl⟩
  ·rcases wN hv with ⟨j,u,rfl,rfl⟩|⟨y,u,rfl,rfl⟩
   ·rw [Ih] at h;exact wpAny_eqBool_int h
   ·rw [Ij] at h;exact SeqAt.EqAt.int_str i t y u _ _ _ _ h
  ·rcases wN hv with ⟨j,u,rfl,rfl⟩|⟨y,u,rfl,rfl⟩
   ·rw [Ik] at h;exact SeqAt.EqAt.str_int x t j u _ _ _ _ h
   ·rw [Ii] at h;exact wpAny_eqBool_str h
 «strs» := λk x t v h=>by
  rcases wN h with ⟨i,u,rfl,e⟩|⟨y,u,rfl,e⟩
  ·exact nomatch e
  ·injection e with e1 _
   subst e1
   cases v<;>rfl
def Il (prog:Program) (w:World) (i:Int) (t:Tok):(bf prog w).is (.inl i) (.int i t)=true:=Ie i t
def Im (prog:Program) (w:World) (x:Str) (t:Tok):(bf prog w).is (.inr x) (.str x t)=true:=Ig x t
inductive V where
 | non|bl (b:Bool)|int (i:Int)|str (x:Str)|byt (b:Array UInt8)|flt (b:UInt64)|ref (a:Addr)|ty (n:String)
 deriving DecidableEq
def RelV:V->Value->Prop
 | .non,u=>u=Value.none
 | .bl b,u=>u=Value.bool b
 | .int i,u=>∃t,u=Value.int i t
 | .str x,u=>∃t,u=Value.str x t
 | .byt b,u=>∃t,u=Value.bytes b t
 | .flt b,u=>∃t,u=Value.float b t
 | .ref a,u=>u=Value.ref a
 | .ty n,u=>u=Value.type n
abbrev Vals:List V->List Value->Prop:=Paired RelV
def Vals.length {xs:List V}{us:Af}(r:Vals xs us):xs.length=us.length:=Paired.length r
theorem Vals.get:∀{xs:List V}{us:Af}{i:Nat}{x:V},Vals xs us->xs[i]?=some x->∃u,us[i]?=some u/\RelV x u
 | _,_,_,_,.nil,e=>by simp at e
 | _,_,0,_,.cons r _,e=>by simp at e;subst e;exact ⟨_,rfl,r⟩
 | _,_,i+1,x,.cons _ t,e=>by
  obtain ⟨u,h1,h2⟩:=Vals.get (i:=i) (x:=x) t (by simpa using e)
  exact ⟨u,by simpa using h1,h2⟩
theorem Vals.append:∀{xs ys:List V}{us ws:Af},Vals xs us->Vals ys ws->Vals (xs++ys) (us++ws)
 | _,_,_,_,.nil,s=>s
 | _,_,_,_,.cons r t,s=>.cons r (Vals.append t s)
theorem Vals.take:∀{xs:List V}{us:Af}(n:Nat),Vals xs us->Vals (xs.take n) (us.take n)
 | _,_,0,_=>.nil
 | _,_,_+1,.nil=>.nil
 | _,_,n+1,.cons r t=>.cons r (Vals.take n t)
theorem Vals.drop:∀{xs:List V}{us:Af}(n:Nat),Vals xs us->Vals (xs.drop n) (us.drop n)
 | _,_,0,r=>r
 | _,_,_+1,.nil=>.nil
 | _,_,n+1,.cons _ t=>Vals.drop n t
def cE:Option V->Option Value->Prop
 | some v,some u=>RelV v u
 | none,none=>True
 | _,_=>False
def KV {κ:Type}:List (κ×V)->List (κ×Value)->Prop:=Paired λ(p:κ×V) (q:κ×Value)=>p.1=q.1/\RelV p.2 q.2
def kV:Key->V
 | .inl i=>.int i
 | .inr x=>.str x
inductive HO where
 | lst (xs:List V)
 | tup (xs:List V)
 | dK (kvs:List (Key×V))|dT (kvs:List (List Key×V))
 | set (S:Int->Bool) (n:Nat)
 | ins (C dx:Addr) (fs:List (Str×V))
 | own (x:Addr)
 | xd (fs:List (Str×V))
 | met (f x:Addr)
 | rng (lo hi:Int)
 | frz (o:Obj) (u:HO)
 | tbl (ps:Array Value)
 | ext (φ:Program->World->Heap->Prop)
abbrev Hp:=Addr->Option HO
def upd (H:Hp) (a:Addr) (o:HO):Hp:=λb=>if b=a then some o else H b
def y0 {H:Hp}{a:Addr}{o:HO}:upd H a o a=some o:=by unfold upd;rw [zx rfl]
def yc {H:Hp}{a b:Addr}{o:HO}(h:b≠a):upd H a o b=H b:=by unfold upd;rw [zH h]
def Io {H:Hp}{a b:Addr}{o u:HO}(h:H a=some o) (h':H b=some u) (d:o≠u):a≠b:=by
 intro e;subst e;rw [h] at h';exact d (Option.some.inj h')
def wO {H:Hp}{a b:Addr}{o:HO}(h:H a=some o) (h':H b=none):a≠b:=by
 intro e;subst e;rw [h] at h';cases h'
section
variable (P:Program) (w:World)
def aZ (H:Hp) (h:Heap) (a:Addr):HO->Prop
 | .lst xs=>xs.length<=sizeLine/\∃(its:Af) (n:Nat),Vals xs its/\h.get? a=some { cls:=.type "list", data:=.seq its.toArray n }
 | .tup xs=>xs.length<=sizeLine/\∃its:Af,Vals xs its/\IsTup h a its.toArray
 | .dK kvs=>kvs.length<=sizeLine/\(a==sysModules)=false/\∃vs,KV kvs vs/\h.DictOf (bf P w) a vs
 | .dT kvs=>kvs.length<=sizeLine/\(a==sysModules)=false/\∃xs:List (List Key×Addr×Value),
   Paired (λ(p:List Key×V) (q:List Key×Addr×Value)=>p.1=q.1/\H q.2.1=some (.tup (p.1.map kV))/\RelV p.2 q.2.2) kvs xs /\
   ∃o es ep,h.get? a=some o/\o.ExactDict/\o.data=.dict es ep/\es.toList=xs.map (entryOfKey (tupleKind (bf P w)))/\(xs.map (·.1)).Nodup
 | .set S n=>h.SetOf (intKind P w) a S n
 | .ins C dx fs=>H dx=some (.own a)/\fs.length<=1000/\dx≠a/\h.get? a=some (PySem.W.instObj C dx) /\
   ∃mA,h.Ns1 dx mA/\(∀f,cE (fs.lookup f) (mA f))/\PySem.Within mA (fs.map (·.1))
 | .own _=>∃o,h.get? a=some o
 | .xd fs=>∃mA,h.Ns1 a mA/\∀f,cE (fs.lookup f) (mA f)
 | .rng lo hi=>∃t u v,h.get? a=some { cls:=.type "range", data:=.fields #[.int lo t,.int hi u,.int 1 v] }
 | .frz o u=>h.get? a=some o/\aZ H h a u
 | .tbl ps=>h.get? a=some { cls:=.none,data:=.fields ps }
 | .met f x=>h.get? a=some (PySem.W.methodObj (.ref f) (.ref x))
 | .ext φ=>φ P w h/\(∃o,h.get? a=some o)/\∀h1 h2:Heap,φ P w h1->(∀o,h1.get? a=some o->h2.get? a=some o)->φ P w h2
def bZ (H:Hp) (h:Heap):Prop:=∀a o,H a=some o->aZ P w H h a o
end
section
variable {P:Program}{w:World}{H H':Hp}{h h':Heap}{a:Addr}{o:HO}
def aZ.lt (x:aZ P w H h a o):a<h.objs.size:=by
 cases o with
 | lst xs=>obtain ⟨_,_,_,_,e⟩:=x;exact ym e
 | tup xs=>obtain ⟨_,_,_,p⟩:=x;exact p.lt
 | dK kvs=>obtain ⟨_,_,_,_,o,_,_,e,_⟩:=x;exact ym e
 | dT kvs=>obtain ⟨_,_,_,_,o,_,_,e,_⟩:=x;exact ym e
 | set S n=>obtain ⟨o,_,_,_,e,_⟩:=x;exact ym e
 | ins C dx fs=>obtain ⟨_,_,_,e,_⟩:=x;exact ym e
 | own y=>obtain ⟨_,e⟩:=x;exact ym e
 | xd fs=>obtain ⟨_,⟨_,_,_,e,_⟩,_⟩:=x;exact ym e
 | rng lo hi=>obtain ⟨_,_,_,e⟩:=x;exact ym e
 | frz ob u=>obtain ⟨e,_⟩:=x;exact ym e
 | tbl ps=>exact ym (show h.get? a=some _ from x)
 | met f y=>exact ym (show h.get? a=some _ from x)
 | ext φ=>obtain ⟨_,⟨_,e⟩,_⟩:=x;exact ym e
theorem Paired.mapP {α β:Type}{F G:α->β->Prop}:∀{aK:List α}{aJ:List β},Paired F aK aJ->(∀a b,F a b->G a b)->Paired G aK aJ
 | _,_,.nil,_=>.nil
 | _,_,.cons r t,f=>.cons (f _ _ r) (Paired.mapP t f)
def aZ.stay (x:aZ P w H h a o) (k:∀b u,(b=a\/H b=some (.own a))->h.get? b=some u->h'.get? b=some u)
  (ho:∀b,H b=some (.own a)->H' b=some (.own a)) (ht:∀b xs,H b=some (.tup xs)->H' b=some (.tup xs)):aZ P w H' h' a o:=by
 induction o with
 | lst xs=>obtain ⟨z,its,n,r,e⟩:=x;exact ⟨z,its,n,r,k _ _ (.inl rfl) e⟩
 | tup xs=>obtain ⟨z,its,r,ob,e,c⟩:=x;exact ⟨z,its,r,ob,k _ _ (.inl rfl) e,c⟩
 | dK kvs=>obtain ⟨z,y,vs,r,ob,es,ep,e,c⟩:=x;exact ⟨z,y,vs,r,ob,es,ep,k _ _ (.inl rfl) e,c⟩
 | dT kvs =>
  obtain ⟨z,y,xs,r,ob,es,ep,e,c⟩:=x
  exact ⟨z,y,xs,Paired.mapP r λp q z=>⟨z.1,ht _ _ z.2.1,z.2.2⟩,ob,es,ep,k _ _ (.inl rfl) e,c⟩
 | set S n=>obtain ⟨ob,es,ep,t,e,c⟩:=x;exact ⟨ob,es,ep,t,k _ _ (.inl rfl) e,c⟩
 | ins C dx fs =>
  obtain ⟨d,z,ne,e,mA,⟨od,es,ep,e2,c⟩,r⟩:=x
  exact ⟨ho _ d,z,ne,k _ _ (.inl rfl) e,mA,⟨od,es,ep,k _ _ (.inr d) e2,c⟩,r⟩
 | own y=>obtain ⟨ob,e⟩:=x;exact ⟨ob,k _ _ (.inl rfl) e⟩
 | xd fs=>obtain ⟨mA,⟨od,es,ep,e,c⟩,r⟩:=x;exact ⟨mA,⟨od,es,ep,k _ _ (.inl rfl) e,c⟩,r⟩
 | rng lo hi=>obtain ⟨t,u,v,e⟩:=x;exact ⟨t,u,v,k _ _ (.inl rfl) e⟩
 | frz ob u ih=>obtain ⟨e,q⟩:=x;exact ⟨k _ _ (.inl rfl) e,ih q⟩
 | tbl ps =>
  have e:h.get? a=some { cls:=.none,data:=.fields ps }:=x
  show h'.get? a=some { cls:=.none,data:=.fields ps }
  exact k a _ (.inl rfl) e
 | met f y =>
  have e:h.get? a=some (PySem.W.methodObj (.ref f) (.ref y)):=x
  show h'.get? a=some (PySem.W.methodObj (.ref f) (.ref y))
  exact k a _ (.inl rfl) e
 | ext φ=>obtain ⟨p,⟨o,e⟩,st⟩:=x;exact ⟨st _ _ p λo q=>k _ _ (.inl rfl) q,⟨o,k _ _ (.inl rfl) e⟩,st⟩
def bZ.lt (x:bZ P w H h) (e:H a=some o):a<h.objs.size:=(x a o e).lt
def bZ.fresh (x:bZ P w H h) (e:h.objs.size<=a):H a=none:=by
 cases q:H a with
 | none=>rfl
 | some u=>exact absurd (jm (x.lt q) e) (Nat.lt_irrefl _)
def bZ.kept (x:bZ P w H h) (k:∀b u,h.get? b=some u->h'.get? b=some u):bZ P w H h':=λa o e =>
 (x a o e).stay (λb u _ q=>k b u q) (λ_ q=>q) λ_ _ q=>q
def bZ.laid (x:bZ P w H h) (k:∀b u,h.get? b=some u->h'.get? b=some u) (hp:h.objs.size<=a) (new:aZ P w (upd H a o) h' a o):bZ P w (upd H a o) h':=λb u e=>by
 have hn:=x.fresh hp
 by_cases hb:b=a
 ·subst hb;rw [y0] at e;cases e;exact new
 ·rw [yc hb] at e
  exact (x b u e).stay (λc v _ q=>k c v q) (λc q=>by rw [yc (wO q hn)];exact q) λc xs q=>by rw [yc (wO q hn)];exact q
end
def Rd (H:Hp) (a:Addr) (u:HO):Prop:=H a=some u\/∃o,H a=some (.frz o u)
def Rd.ok {P:Program}{w:World}{H:Hp}{h:Heap}{a:Addr}{u:HO}(r:Rd H a u) (x:bZ P w H h):aZ P w H h a u:=by
 rcases r with r|⟨o,r⟩
 ·exact x a u r
 ·obtain ⟨_,q⟩:=x a _ r
  exact q
def oH:Option HO->Prop
 | some (.lst _)=>True
 | some (.dK _)=>True
 | some (.dT _)=>True
 | some (.set _ _)=>True
 | some (.ins _ _ _)=>True
 | some (.ext _)=>True
 | _=>False
section
variable {P:Program}{w:World}{H:Hp}{h h':Heap}{x e:Addr}{o':HO}
def bZ.write (ok:bZ P w H h) (mu:oH (H x)) (he:e=x\/H e=some (.own x)) (k:∀b u,b≠e->h.get? b=some u->h'.get? b=some u) (nj:∃u,h'.get? e=some u)
  (new:aZ P w (upd H x o') h' x o'):bZ P w (upd H x o') h':=λb u q=>by
 have nown:∀c y,H c=some (.own y)->c≠x:=λc y r z=>by subst z;rw [r] at mu;exact mu
 have Bq:∀c xs,H c=some (.tup xs)->c≠x:=λc xs r z=>by subst z;rw [r] at mu;exact mu
 by_cases hb:b=x
 ·subst hb;rw [y0] at q;cases q;exact new
 ·rw [yc hb] at q
  by_cases hbe:b=e
  ·have q':H b=some (.own x):=by
    rcases he with z|z
    ·exact absurd (hbe.trans z) hb
    ·rw [hbe];exact z
   rw [q] at q';cases q'
   obtain ⟨v,hv⟩:=nj
   exact ⟨v,by rw [hbe];exact hv⟩
  ·refine (ok b u q).stay (λc v hc r=>k c v ?_ r) (λc r=>by rw [yc (nown c b r)];exact r) λc xs r=>by rw [yc (Bq c xs r)];exact r
   rcases hc with rfl|hc
   ·exact hbe
   ·rintro rfl
    rcases he with z|z
    ·exact nown c b hc z
    ·rw [hc] at z;cases z;exact hb rfl
end
structure Un (fs ex:Ae) (H H':Hp) (h h':Heap):Prop where
 keep:∀b o,h.get? b=some o->H b=none->b∉fs->b∉ex->h'.get? b=some o
 slot:∀b o,h.get? b=some o->H b=none->b∈fs->b∉ex->∃sl,h'.get? b=some { o with slots:=sl }
 free:∀b o,h.get? b=some o->H b=none->b∉ex->H' b=none
 there:∀b o,h.get? b=some o->b∉ex->∃o',h'.get? b=some o'
 tups:∀b xs,H b=some (.tup xs)->H' b=some (.tup xs)
 frzs:∀b o u,H b=some (.frz o u)->H' b=some (.frz o u)
 tbls:∀b ps,H b=some (.tbl ps)->∃more,H' b=some (.tbl (ps++more))
section
variable {fs Ip ex XQ:Ae}{H H1 H2:Hp}{h h1 h2 h':Heap}{a x e:Addr}{o:HO}
def Un.any (u:Un fs ex H H1 h h1) {b:Addr}{ob:Obj}(q:h.get? b=some ob) (n:H b=none) (hx:b∉ex):∃sl,h1.get? b=some { ob with slots:=sl }:=by
 by_cases hb:b∈fs
 ·exact u.slot b ob q n hb hx
 ·exact ⟨ob.slots,u.keep b ob q n hb hx⟩
def Un.trans (a:Un fs ex H H1 h h1) (b:Un fs ex H1 H2 h1 h2):Un fs ex H H2 h h2 where
 keep:=λc ob q n hc hx=>b.keep c ob (a.keep c ob q n hc hx) (a.free c ob q n hx) hc hx
 slot:=λc ob q n hc hx=>by
  obtain ⟨sl,e1⟩:=a.slot c ob q n hc hx
  obtain ⟨rg,e2⟩:=b.slot c _ e1 (a.free c ob q n hx) hc hx
  exact ⟨rg,e2⟩
 free:=λc ob q n hx=>by
  obtain ⟨o',e1⟩:=a.there c ob q hx
  exact b.free c o' e1 (a.free c ob q n hx) hx
 there:=λc ob q hx=>by
  obtain ⟨o',e1⟩:=a.there c ob q hx
  exact b.there c o' e1 hx
 tups:=λc xs q=>b.tups c xs (a.tups c xs q)
 frzs:=λc ob xs q=>b.frzs c ob xs (a.frzs c ob xs q)
 tbls:=λc ps q=>by
  obtain ⟨m1,e1⟩:=a.tbls c ps q
  obtain ⟨m2,e2⟩:=b.tbls c _ e1
  exact ⟨m1++m2,by rw [e2,Array.append_assoc]⟩
def Un.kept (k:∀b u,h.get? b=some u->h'.get? b=some u):Un fs ex H H h h' :=
 ⟨λb ob q _ _ _=>k b ob q,λb ob q _ _ _=>⟨ob.slots,k b ob q⟩,λ_ _ _ n _=>n,λb ob q _=>⟨ob,k b ob q⟩,λ_ _ q=>q,λ_ _ _ q=>q,λ_ ps q=>⟨#[],by rw [q];simp⟩⟩
def Un.refl:Un fs ex H H h h:=Un.kept λ_ _ q=>q
def Un.laid (k:∀b u,h.get? b=some u->h'.get? b=some u) (hp:h.objs.size<=a) (hn:H a=none):Un fs ex H (upd H a o) h h' where
 keep:=λb u q _ _ _=>k b u q
 slot:=λb u q _ _ _=>⟨u.slots,k b u q⟩
 free:=λb u q n _=>by rw [yc (yK (jm (ym q) hp))];exact n
 there:=λb u q _=>⟨u,k b u q⟩
 tups:=λb xs q=>by rw [yc (wO q hn)];exact q
 frzs:=λb u xs q=>by rw [yc (wO q hn)];exact q
 tbls:=λb ps q=>⟨#[],by rw [yc (wO q hn),q];simp⟩
def Un.write (mu:oH (H x)) (he:e=x\/H e=some (.own x)) (k:∀b u,b≠e->h.get? b=some u->h'.get? b=some u) (nj:∃u,h'.get? e=some u):Un fs ex H (upd H x o) h h':=by
 have hx:∀b,H b=none->b≠x:=λb n z=>by subst z;rw [n] at mu;exact mu
 have hb:∀b,H b=none->b≠e:=λb n z=>by
  subst z
  rcases he with r|r
  ·exact hx b n r
  ·rw [n] at r;cases r
 have hm:∀b u,H b=some u->¬oH (some u)->b≠x:=λb u q nm z=>by subst z;rw [q] at mu;exact nm mu
 refine ⟨λb u q n _ _=>k b u (hb b n) q,λb u q n _ _=>⟨u.slots,k b u (hb b n) q⟩,λb u q n _=>by rw [yc (hx b n)];exact n,λb u q _=>?_,
  λb xs q=>by rw [yc (hm b _ q λz=>z)];exact q,λb u xs q=>by rw [yc (hm b _ q λz=>z)];exact q,λb ps q=>⟨#[],by rw [yc (hm b _ q λz=>z),q];simp⟩⟩
 by_cases hbe:b=e
 ·subst hbe;exact nj
 ·exact ⟨u,k b u hbe q⟩
end
def rh (h:Heap) (H:Hp):Ae:=(List.range h.objs.size).filter λa=>(H a).isSome
def fF (h:Heap) (H:Hp):Heap:=PySem.W.hideAll h (rh h H)
def Iq (h:Heap) (H:Hp):(fF h H).objs.size=h.objs.size:=PySem.W.hideAll_size _ _
def Ir {h:Heap}{H:Hp}{b:Addr}{o:Obj}(e:h.get? b=some o) (n:H b=none):(fF h H).get? b=some o :=
 PySem.W.hideAll_get _ e λhm=>by
  have q:(H b).isSome=true:=(List.mem_filter.mp hm).2
  rw [n] at q;simp at q
def Iu {h:Heap}{H:Hp}{b:Addr}{o:Obj}(e:(fF h H).get? b=some o):h.get? b=some o/\H b=none:=by
 have e':h.get? b=some o:=PySem.W.of_hideAll (rh h H) e
 refine ⟨e',?_⟩
 cases q:H b with
 | none=>rfl
 | some x =>
  have hm:b∈rh h H:=List.mem_filter.mpr ⟨List.mem_range.mpr (ym e'),by simp [q]⟩
  have z:(fF h H).get? b=none:=PySem.W.hideAll_none (rh h H) hm
  rw [z] at e;cases e
def oN (g h:Heap) (L:Addr):Ac:=(List.range h.objs.size).filterMap λa=>if a=L\/(g.get? a).isSome=true then none else (h.get? a).map λo=>(a,o)
def rest (g h:Heap) (L d:Addr):Ac:=(oN g h L).filter λp=>decide (p.1≠d)
structure Mod (K:PySem.W.Frag) (mg:Ab) (base:Heap):Prop where
 kin:K.In base
 glob:base.Ns mainGlobals mg
 blt:∃mb,base.Ns builtinsNs mb/\∀x:Str,x ≠ "__name__" -> mb x=bootBuiltins x
 nolimit:base.NoLimit
structure Cx where
 prog:Program
 w:World
 K:PySem.W.Frag
 mg:Ab
 base:Heap
 A:Around
 N:Ad
 s₀:Shared
 H₀:Hp
 env:Env
 outer:List Env
 stack:List Env
 ex:Ae
 fn:Str->Bool
 calm:Bool
 pn:Ac
 xe:Aa
def cT (l:List Env):Ae:=l.filterMap (·.frame)
abbrev Cx.fs (X:Cx):Ae:=cT X.outer
def ri (sc:Scope) (x:Str):Prop:=sc.names.lookup x=some .local\/sc.names.lookup x=some .cell\/sc.names.lookup x=some .free
def Loc (sc:Scope) (x:Str):Prop:=sc.names.lookup x=some .local\/sc.names.lookup x=some .cell
def Look (env:Env) (h:Heap) (m:Ab) (x:Str) (u:Value):Prop :=
 (env.kindOf x=some .local/\m x=some u)\/((env.kindOf x=some .cell\/env.kindOf x=some .free)/\∃c,env.cells.lookup x=some c/\h.IsCell c (some u))
structure Cx.Ok (X:Cx):Prop where
 mod:Mod X.K X.mg X.base
 kind:X.env.scope.kind=.function
 glob:X.env.globals=mainGlobals
 blt:X.env.builtins=builtinsNs
 above:X.s₀.heap.objs.size<=X.env.locals
 inj:∀x y c,X.env.cells.lookup x=some c->X.env.cells.lookup y=some c->x=y
 has:∀x,(X.env.kindOf x=some .cell\/X.env.kindOf x=some .free)->∃c,X.env.cells.lookup x=some c
 cab:∀x c,X.fn x=true->X.env.cells.lookup x=some c->X.s₀.heap.objs.size<=c
 hd:X.calm=true->X.A.handled=none
 frames:X.A.frames=some X.stack
 stk:X.stack=X.outer\/(X.stack=X.env::X.outer/\X.env.frame=some X.env.locals)
 exf:∀b∈X.ex,b≠X.env.locals/\∀x c,X.env.cells.lookup x=some c->c≠b
 bs:∀b o,X.base.get? b=some o->X.s₀.heap.get? b=some o/\X.H₀ b=none
 bsz:X.base.objs.size<=X.s₀.heap.objs.size
 noex:∀b o,X.base.get? b=some o->b∉X.ex
 exfs:∀b∈X.ex,b∉X.fs
 funs:X.s₀.heap.FunFrames X.base X.outer
 frf:∀b∈X.fs,X.H₀ b=none
structure Inv (X:Cx) (pins:Ac) (U:List (Option V)) (H:Hp) (s:Shared):Prop where
 ok:X.Ok
 os:s.os=X.s₀.os
 bare:AllBare s.gens
 base:Un X.fs X.ex X.H₀ H X.s₀.heap s.heap
 loc:∃m,s.heap.Ns X.env.locals m/\∀(i:Nat) (x:Str) (v:V),X.N[i]?=some x->U[i]?=some (some v)->ri X.env.scope x->∃u,RelV v u/\Look X.env s.heap m x u
 cell:∀x c,X.env.cells.lookup x=some c->∃v,s.heap.IsCell c v
 free:H X.env.locals=none
 freeC:∀x c,X.env.cells.lookup x=some c->H c=none
 pin:∀p∈X.pn++pins,s.heap.get? p.1=some p.2/\H p.1=none/\p.1≠X.env.locals/\p.1∉X.fs/\∀v,p.2.data ≠ .cell v
 hok:bZ X.prog X.w H s.heap
 len:U.length=X.N.length
section
variable {X:Cx}{pins:Ac}{U:List (Option V)}{H H':Hp}{s:Shared}{h':Heap}
def Cx.Ok.nofr (ok:X.Ok) {b:Addr}{o:Obj}(e:X.base.get? b=some o):b∉X.fs:=λhb=>by
 have:=(ok.funs.mem hb).1
 rw [e] at this;cases this
def Inv.bs (I:Inv X pins U H s):∀b o,X.base.get? b=some o->s.heap.get? b=some o/\H b=none:=λb o e =>
 ⟨I.base.keep b o (I.ok.bs b o e).1 (I.ok.bs b o e).2 (I.ok.nofr e) (I.ok.noex b o e),I.base.free b o (I.ok.bs b o e).1 (I.ok.bs b o e).2 (I.ok.noex b o e)⟩
def Inv.bk (I:Inv X pins U H s):∀b o,X.base.get? b=some o->s.heap.get? b=some o:=λb o e=>(I.bs b o e).1
def Inv.mod (I:Inv X pins U H s):Mod X.K X.mg X.base:=I.ok.mod
def Inv.kIn (I:Inv X pins U H s):X.K.In s.heap:=I.ok.mod.kin.keeps I.bk
def Inv.fr (I:Inv X pins U H s):∃m,Fr X.base X.env.locals s.heap m :=
 let ⟨m,hn,_⟩:=I.loc
 ⟨m,hn,I.bk,y4 I.ok.bsz I.ok.above⟩
def Inv.lt (I:Inv X pins U H s):X.env.locals<s.heap.objs.size:=let ⟨_,hn,_⟩:=I.loc;hn.lt
def Inv.sz (I:Inv X pins U H s):X.s₀.heap.objs.size<=s.heap.objs.size:=y4 I.ok.above (Nat.le_of_lt I.lt)
def Inv.nofs (I:Inv X pins U H s) {a:Addr}(h:s.heap.objs.size<=a):a∉X.fs:=λhb=>by
 obtain ⟨_,o,ho,_⟩:=I.ok.funs.mem hb
 exact absurd (jm (ym ho) (y4 I.sz h)) (Nat.lt_irrefl _)
def Inv.cne (I:Inv X pins U H s):∀x c,X.env.cells.lookup x=some c->c≠X.env.locals:=λx c e z=>by
 obtain ⟨v,o,ho,hd⟩:=I.cell x c e
 obtain ⟨m,⟨o',es,ep,ho',gr,_⟩,_⟩:=I.loc
 rw [z,ho'] at ho;cases ho;rw [gr] at hd;cases hd
def Inv.funs (I:Inv X pins U H s):s.heap.FunFrames X.base X.outer:=by
 have all:∀(l:List Env),(∀b∈cT l,b∈X.fs)->X.s₀.heap.FunFrames X.base l->s.heap.FunFrames X.base l:=by
  intro l
  induction l with
  | nil=>intro _ _;trivial
  | cons env r ih =>
   intro hs hl
   obtain ⟨hk,⟨L,o,hf,hn,ho,hd⟩,hr⟩:=hl
   have hL:L∈X.fs:=hs L (by unfold cT;rw [List.filterMap_cons,hf];exact jd)
   obtain ⟨sl,e⟩:=I.base.slot L o ho (I.ok.frf L hL) hL λz=>I.ok.exfs L z hL
   exact ⟨hk,⟨L,_,hf,hn,e,hd⟩,ih (λb hb=>hs b (by unfold cT;rw [List.filterMap_cons,hf];exact jq _ hb)) hr⟩
 exact all X.outer (λ_ hb=>hb) I.ok.funs
def Inv.stack (I:Inv X pins U H s):s.heap.FunFrames X.base X.stack:=by
 rcases I.ok.stk with e|⟨e,hf⟩
 ·rw [e];exact I.funs
 ·rw [e]
  obtain ⟨m,hn,_⟩:=I.loc
  refine .cons (by rw [I.ok.kind];decide) hf hn ?_ I.funs
  exact Heap.get?_none_of_le (y4 I.ok.bsz I.ok.above)
def Inv.stkSub (I:Inv X pins U H s):∀b∈cT X.stack,b∈X.env.locals::X.fs:=λb hb=>by
 rcases I.ok.stk with e|⟨e,hf⟩
 ·rw [e] at hb;exact jq _ hb
 ·rw [e] at hb
  unfold cT at hb
  rw [List.filterMap_cons,hf] at hb
  exact hb
def Inv.stkFree (I:Inv X pins U H s):∀b∈cT X.stack,H b=none:=λb hb=>by
 rcases yF.mp (I.stkSub b hb) with e|hb
 ·rw [e];exact I.free
 ·obtain ⟨_,o,ho,_⟩:=I.ok.funs.mem hb
  exact I.base.free b o ho (I.ok.frf b hb) λz=>I.ok.exfs b z hb
def Inv.step {g':Array GenState}{t':Nat}{d':Drawn}{ch:Ae}(I:Inv X pins U H s)
  (gR:∀b∈ch,(b∈X.ex\/X.s₀.heap.objs.size<=b)/\b≠X.env.locals/\(∀x c,X.env.cells.lookup x=some c->c≠b)/\∀p∈X.pn++pins,p.1≠b)
  (keep:∀b o,b≠X.env.locals->b∉X.fs->b∉ch->s.heap.get? b=some o->H b=none->h'.get? b=some o)
  (slot:∀b o,b≠X.env.locals->b∈X.fs->b∉ch->s.heap.get? b=some o->H b=none->∃sl,h'.get? b=some { o with slots:=sl }) (free:∀b o,b∉ch->s.heap.get? b=some o->H b=none->H' b=none)
  (there:∀b o,b∉ch->s.heap.get? b=some o->∃o',h'.get? b=some o')
  (tups:∀b xs,H b=some (.tup xs)->H' b=some (.tup xs)) (frzs:∀b o u,H b=some (.frz o u)->H' b=some (.frz o u)) (tbls:∀b ps,H b=some (.tbl ps)->∃more,H' b=some (.tbl (ps++more)))
  (ns:∀m,s.heap.Ns X.env.locals m->h'.Ns X.env.locals m) (hok:bZ X.prog X.w H' h') (hg:AllBare g') :
  Inv X pins U H' { s with heap:=h',gens:=g',drawn:=d',toks:=t' }:=by
 have Br:∀b o,X.s₀.heap.get? b=some o->b≠X.env.locals:=λb o e=>yK (jm (ym e) I.ok.above)
 have gT:∀b o,X.s₀.heap.get? b=some o->b∉X.ex->b∉ch:=λb o e hx hb=>by
  rcases (gR b hb).1 with z|z
  ·exact hx z
  ·exact absurd (jm (ym e) z) (Nat.lt_irrefl _)
 have cellK:∀x c,X.env.cells.lookup x=some c->∀v,s.heap.IsCell c v->h'.IsCell c v:=λx c e v ⟨o,ho,hd⟩=>by
  have gu:c∉ch:=λz=>(gR c z).2.2.1 x c e rfl
  by_cases hc:c∈X.fs
  ·obtain ⟨sl,q⟩:=slot c o (I.cne x c e) hc gu ho (I.freeC x c e)
   exact ⟨_,q,hd⟩
  ·exact ⟨o,keep c o (I.cne x c e) hc gu ho (I.freeC x c e),hd⟩
 refine ⟨I.ok,I.os,hg,⟨λb o e n hb hx=>?_,λb o e n hb hx=>?_,λb o e n hx=>?_,λb o e hx=>?_,λb xs e=>tups b xs (I.base.tups b xs e),λb o xs e=>frzs b o xs (I.base.frzs b o xs e),λb ps e=>?_⟩,?_,λx c e=>?_,?_,λx c e=>?_,λp hp=>?_,hok,I.len⟩
 ·exact keep b o (Br b o e) hb (gT b o e hx) (I.base.keep b o e n hb hx) (I.base.free b o e n hx)
 ·obtain ⟨sl,e1⟩:=I.base.slot b o e n hb hx
  obtain ⟨rg,e2⟩:=slot b _ (Br b o e) hb (gT b o e hx) e1 (I.base.free b o e n hx)
  exact ⟨rg,e2⟩
 ·obtain ⟨o',e1⟩:=I.base.there b o e hx
  exact free b o' (gT b o e hx) e1 (I.base.free b o e n hx)
 ·obtain ⟨o',e1⟩:=I.base.there b o e hx
  exact there b o' (gT b o e hx) e1
 ·obtain ⟨m1,e1⟩:=I.base.tbls b ps e
  obtain ⟨m2,e2⟩:=tbls b _ e1
  exact ⟨m1++m2,by rw [e2,Array.append_assoc]⟩
 ·obtain ⟨m,hn,hl⟩:=I.loc
  refine ⟨m,ns m hn,λi x v e1 e2 e3=>?_⟩
  obtain ⟨u,r,l⟩:=hl i x v e1 e2 e3
  refine ⟨u,r,?_⟩
  rcases l with l|⟨k,c,e,z⟩
  ·exact .inl l
  ·exact .inr ⟨k,c,e,cellK x c e _ z⟩
 ·obtain ⟨v,z⟩:=I.cell x c e
  exact ⟨v,cellK x c e v z⟩
 ·obtain ⟨m,⟨o,_,_,ho,_⟩,_⟩:=I.loc
  exact free _ o (λz=>(gR _ z).2.1 rfl) ho I.free
 ·obtain ⟨v,o,ho,hd⟩:=I.cell x c e
  exact free c o (λz=>(gR c z).2.2.1 x c e rfl) ho (I.freeC x c e)
 ·obtain ⟨e,n,ne,nf,d⟩:=I.pin p hp
  have gu:p.1∉ch:=λz=>(gR p.1 z).2.2.2 p hp rfl
  exact ⟨keep p.1 p.2 ne nf gu e n,free p.1 p.2 gu e n,ne,nf,d⟩
def Inv.un {t':Nat}(I:Inv X pins U H s) (u:Un X.fs [] H H' s.heap h') (hok:bZ X.prog X.w H' h'):Inv X pins U H' { s with heap:=h',toks:=t' }:=by
 obtain ⟨m,⟨o,es,ep,ho,r⟩,_⟩:=id I.loc
 obtain ⟨sl,hL⟩:=u.any ho I.free (by simp)
 exact I.step (g':=s.gens) (d':=s.drawn) (ch:=[]) (λ_ z=>nomatch z) (λb o _ hb _ e n=>u.keep b o e n hb (by simp)) (λb o _ hb _ e n=>u.slot b o e n hb (by simp)) (λb o _ e n=>u.free b o e n (by simp)) (λb o _ e=>u.there b o e (by simp)) u.tups u.frzs u.tbls (λm' hm=>by
  obtain ⟨o',uT,uU,ho',r'⟩:=hm
  rw [ho] at ho';cases ho'
  exact ⟨_,uT,uU,hL,r'⟩) hok I.bare
def Inv.call {g':Array GenState}{t':Nat}{d':Drawn}{ch:Ae}(I:Inv X pins U H s) (u:Un (cT X.stack) ch H H' s.heap h') (hok:bZ X.prog X.w H' h') (hg:AllBare g')
  (gR:∀b∈ch,(b∈X.ex\/X.s₀.heap.objs.size<=b)/\b≠X.env.locals/\(∀x c,X.env.cells.lookup x=some c->c≠b)/\∀p∈X.pn++pins,p.1≠b) :
  Inv X pins U H' { s with heap:=h',gens:=g',drawn:=d',toks:=t' }:=by
 obtain ⟨m,⟨o,es,ep,ho,r⟩,_⟩:=id I.loc
 obtain ⟨sl,hL⟩:=u.any ho I.free λz=>(gR _ z).2.1 rfl
 exact I.step (ch:=ch) gR (λb o hL hb hc e n=>u.keep b o e n (λz=>(yF.mp (I.stkSub b z)).elim hL hb) hc) (λb o _ _ hc e n=>u.any e n hc) (λb o hc e n=>u.free b o e n hc) (λb o hc e=>u.there b o e hc) u.tups u.frzs u.tbls (λm' hm=>by
  obtain ⟨o',uT,uU,ho',r'⟩:=hm
  rw [ho] at ho';cases ho'
  exact ⟨_,uT,uU,hL,r'⟩) hok hg
def Inv.turned {t':Nat}{it:Addr}(I:Inv X pins U H s) (k:∀b o,b≠it->s.heap.get? b=some o->h'.get? b=some o) (hn:H it=none) (hL:it≠X.env.locals)
  (h1:it∈X.ex\/X.s₀.heap.objs.size<=it) (h2:∀x c,X.env.cells.lookup x=some c->c≠it) (h3:∀p∈X.pn++pins,p.1≠it):Inv X pins U H { s with heap:=h',toks:=t' }:=by
 have Bs:∀b u,H b=some u->b≠it:=λb u e z=>by rw [z,hn] at e;cases e
 refine I.step (g':=s.gens) (d':=s.drawn) (ch:=[it]) (λb hb=>?_) (λb o _ _ hc e _=>k b o (λz=>hc (by simp [z])) e) (λb o _ _ hc e _=>⟨o.slots,k b o (λz=>hc (by simp [z])) e⟩) (λ_ _ _ _ n=>n)
  (λb o hc e=>⟨o,k b o (λz=>hc (by simp [z])) e⟩) (λ_ _ e=>e) (λ_ _ _ e=>e) (λb ps e=>⟨#[],by rw [e];simp⟩) (λm hm=>?_) (λb u e=>?_) I.bare
 ·have e:b=it:=by simpa using hb
  subst e
  exact ⟨h1,hL,h2,h3⟩
 ·obtain ⟨o,es,ep,ho,r⟩:=hm
  exact ⟨o,es,ep,k _ o (yC hL) ho,r⟩
 ·refine (I.hok b u e).stay (λc v hc q=>k c v ?_ q) (λ_ q=>q) λ_ _ q=>q
  rcases hc with z|z
  ·rw [z];exact Bs b u e
  ·exact Bs c _ z
def Inv.tok (I:Inv X pins U H s) (t:Nat):Inv X pins U H { s with toks:=t }:=I.un (h':=s.heap) (t':=t) Un.refl I.hok
def Inv.kept {t':Nat}(I:Inv X pins U H s) (k:∀b u,s.heap.get? b=some u->h'.get? b=some u):Inv X pins U H { s with heap:=h',toks:=t' }:=I.un (Un.kept k) (I.hok.kept k)
def Inv.laid {a:Addr}{o:HO}{t':Nat}(I:Inv X pins U H s) (k:∀b u,s.heap.get? b=some u->h'.get? b=some u) (hp:s.heap.objs.size<=a) (new:aZ X.prog X.w (upd H a o) h' a o) :
  Inv X pins U (upd H a o) { s with heap:=h',toks:=t' }:=I.un (Un.laid k hp (I.hok.fresh hp)) (I.hok.laid k hp new)
def Inv.write {x e:Addr}{o:HO}{t':Nat}(I:Inv X pins U H s) (mu:oH (H x)) (he:e=x\/H e=some (.own x)) (k:∀b u,b≠e->s.heap.get? b=some u->h'.get? b=some u) (nj:∃u,h'.get? e=some u)
  (new:aZ X.prog X.w (upd H x o) h' x o):Inv X pins U (upd H x o) { s with heap:=h',toks:=t' }:=I.un (Un.write mu he k nj) (I.hok.write mu he k nj new)
def Inv.weak {ai:List (Option V)}(I:Inv X pins U H s) (hl:ai.length=U.length) (w:∀(i:Nat) v,ai[i]?=some (some v)->U[i]?=some (some v)):Inv X pins ai H s :=
 ⟨I.ok,I.os,I.bare,I.base,let ⟨m,hn,oO⟩:=I.loc;⟨m,hn,λi x v e1 e2 e3=>oO i x v e1 (w i v e2) e3⟩,I.cell,I.free,I.freeC,I.pin,I.hok,hl.trans I.len⟩
def Inv.pins_of {pins':Ac}(I:Inv X pins U H s) (h:∀p∈pins',s.heap.get? p.1=some p.2/\H p.1=none/\p.1≠X.env.locals/\p.1∉X.fs/\∀v,p.2.data ≠ .cell v):Inv X pins' U H s :=
 ⟨I.ok,I.os,I.bare,I.base,I.loc,I.cell,I.free,I.freeC,λp hp=>(ju.mp hp).elim (λz=>I.pin p (j4 _ z)) (h p),I.hok,I.len⟩
def uV {N:Ad}(hN:N.Nodup) {i j:Nat}{x:Str}(a:N[i]?=some x) (b:N[j]?=some x):i=j:=by
 obtain ⟨h1,e1⟩:=yv.mp a
 obtain ⟨h2,e2⟩:=yv.mp b
 exact (List.getElem_inj hN).mp (e1.trans e2.symm)
def Iw {M:Model}{A:Around}{E:Aa}{i:Nat}{x:Str}{v:V}{u:Value}{Q:Unit->Shared->Prop}(I:Inv X pins U H s) (hN:X.N.Nodup) (hi:X.N[i]?=some x) (hx:Loc X.env.scope x) (r:RelV v u)
  (h:∀s',Inv X pins (U.set i (some v)) H s'->(∃a,Heap.SameBut a s.heap s'.heap/\(a=X.env.locals\/X.env.cells.lookup x=some a))->Q () s') (hf:X.fn x=true\/X.env.scope.names.lookup x=some .local:=by first|exact .inl rfl|exact .inr rfl|assumption):wpAny M A (storeName X.env x u) Q E s:=by
 obtain ⟨m,hn,hl⟩:=id I.loc
 have ke:(X.env.scope.kind == .class||(X.env.scope.kind == .module&&X.env.locals != X.env.globals))=false:=by rw [I.ok.kind];rfl
 have aH:i<U.length:=by rw [I.len];exact (yv.mp hi).1
 have cne:=I.cne
 have tracked:∀{a:Addr} {h':Heap},(∃o,s.heap.get? a=some o/\H a=none)->Heap.SameBut a s.heap h'->bZ X.prog X.w H h':=λ{a h'} ha hs b ob e=>by
  obtain ⟨_,_,ie⟩:=ha
  refine (I.hok b ob e).stay (λc w' hc q=>(hs.2 c ?_).trans q) (λ_ q=>q) λ_ _ q=>q
  rintro rfl
  rcases hc with rfl|hc
  ·rw [ie] at e;cases e
  ·rw [ie] at hc;cases hc
 rcases hx with hk|hk
 ·refine wpAny_storeName_local hk hn (λh' oP hs=>?_) ke
  obtain ⟨oL,_,_,Bt,_⟩:=id hn
  refine h _ ⟨I.ok,I.os,I.bare,⟨λb o e n hb hx=>?_,λb o e n hb hx=>?_,I.base.free,λb o e hx=>?_,I.base.tups,I.base.frzs,I.base.tbls⟩,⟨_,oP,λj y v' e1 e2 e3=>?_⟩,λy c e=>?_,I.free,I.freeC,λp hp=>?_,tracked ⟨oL,Bt,I.free⟩ hs,by simpa using I.len⟩ ⟨_,hs,.inl rfl⟩
  ·exact (hs.2 b (yK (jm (ym e) I.ok.above))).trans (I.base.keep b o e n hb hx)
  ·obtain ⟨sl,e1⟩:=I.base.slot b o e n hb hx
   exact ⟨sl,(hs.2 b (yK (jm (ym e) I.ok.above))).trans e1⟩
  ·obtain ⟨o',e1⟩:=I.base.there b o e hx
   exact ⟨o',(hs.2 b (yK (jm (ym e) I.ok.above))).trans e1⟩
  ·by_cases hj:j=i
   ·subst hj
    rw [hi] at e1;cases e1
    rw [yM aH] at e2
    cases e2
    exact ⟨u,r,.inl ⟨hk,by simp⟩⟩
   ·rw [yh (yC hj)] at e2
    obtain ⟨u',r',q⟩:=hl j y v' e1 e2 e3
    refine ⟨u',r',?_⟩
    rcases q with ⟨k,e⟩|⟨k,c,e,z⟩
    ·refine .inl ⟨k,?_⟩
     have:y≠x:=λe=>hj (uV hN e1 (e▸hi))
     simp [this,e]
    ·exact .inr ⟨k,c,e,z.sameBut hs (cne y c e)⟩
  ·obtain ⟨w',z⟩:=I.cell y c e
   exact ⟨w',z.sameBut hs (cne y c e)⟩
  ·obtain ⟨e,n,ne,nf,d⟩:=I.pin p hp
   exact ⟨(hs.2 p.1 ne).trans e,n,ne,nf,d⟩
 ·have uW:X.fn x=true:=by
   rcases hf with z|z
   ·exact z
   ·rw [z] at hk;cases hk
  obtain ⟨c,hc⟩:=I.ok.has x (.inl hk)
  obtain ⟨w',z⟩:=I.cell x c hc
  refine wpAny_storeName_cell I.ok.kind hk hc z (λh' cQ hs=>?_)
  obtain ⟨oc,Bu,Bv⟩:=id z
  refine h { s with heap:=h' } ⟨I.ok,I.os,I.bare,⟨λb o e n hb hx=>?_,λb o e n hb hx=>?_,I.base.free,λb o e hx=>?_,I.base.tups,I.base.frzs,I.base.tbls⟩,⟨m,hn.sameBut hs (yC (cne x c hc)),λj y v' e1 e2 e3=>?_⟩,λy c' e=>?_,I.free,I.freeC,λp hp=>?_,tracked ⟨oc,Bu,I.freeC x c hc⟩ hs,by simpa using I.len⟩ ⟨c,hs,.inr hc⟩
  ·exact (hs.2 b (yK (jm (ym e) (I.ok.cab x c uW hc)))).trans (I.base.keep b o e n hb hx)
  ·obtain ⟨sl,e1⟩:=I.base.slot b o e n hb hx
   exact ⟨sl,(hs.2 b (yK (jm (ym e) (I.ok.cab x c uW hc)))).trans e1⟩
  ·obtain ⟨o',e1⟩:=I.base.there b o e hx
   exact ⟨o',(hs.2 b (yK (jm (ym e) (I.ok.cab x c uW hc)))).trans e1⟩
  ·by_cases hj:j=i
   ·subst hj
    rw [hi] at e1;cases e1
    rw [yM aH] at e2
    cases e2
    exact ⟨u,r,.inr ⟨.inl hk,c,hc,cQ⟩⟩
   ·rw [yh (yC hj)] at e2
    obtain ⟨u',r',q⟩:=hl j y v' e1 e2 e3
    refine ⟨u',r',?_⟩
    rcases q with q|⟨k,c',e,z'⟩
    ·exact .inl q
    ·refine .inr ⟨k,c',e,z'.sameBut hs ?_⟩
     rintro rfl
     exact hj (uV hN e1 (I.ok.inj _ _ _ e hc▸hi))
  ·by_cases nk:c'=c
   ·subst nk;exact ⟨_,cQ⟩
   ·obtain ⟨w2,z2⟩:=I.cell y c' e
    exact ⟨w2,z2.sameBut hs nk⟩
  ·obtain ⟨e,n,ne,nf,d⟩:=I.pin p hp
   refine ⟨(hs.2 p.1 ?_).trans e,n,ne,nf,d⟩
   intro q
   rw [q,Bu] at e
   have q':oc=p.2:=Option.some.inj e
   exact d w' (by rw [<-q'];exact Bv)
def oQ {M:Model}{A:Around}{E:Aa}{i:Nat}{x:Str}{v:V}{u:Value}{Q:Unit->Shared->Prop}(I:Inv X pins U H s) (hN:X.N.Nodup) (hi:X.N[i]?=some x) (hx:Loc X.env.scope x) (r:RelV v u)
  (h:∀s',Inv X pins (U.set i (some v)) H s'->Q () s') (hf:X.fn x=true\/X.env.scope.names.lookup x=some .local:=by first|exact .inl rfl|exact .inr rfl|assumption):wpAny M A (storeName X.env x u) Q E s :=
 Iw I hN hi hx r (λs' I' _=>h s' I') hf
def Inv.call' {s':Shared}{ch:Ae}(I:Inv X pins U H s) (ho:s'.os=s.os) (u:Un (cT X.stack) ch H H' s.heap s'.heap) (hok:bZ X.prog X.w H' s'.heap) (hg:AllBare s'.gens)
  (gR:∀b∈ch,(b∈X.ex\/X.s₀.heap.objs.size<=b)/\b≠X.env.locals/\(∀x c,X.env.cells.lookup x=some c->c≠b)/\∀p∈X.pn++pins,p.1≠b):Inv X pins U H' s':=by
 obtain ⟨h',g',d',t',o'⟩:=s'
 have e:o'=s.os:=ho
 subst e
 exact I.call (g':=g') (t':=t') (d':=d') u hok hg gR
end
abbrev XK:=Value->Option Addr->Hp->Prop
abbrev St:=List (Option V)
abbrev VK:=V->Hp->Prop
abbrev TE:=St->Hp->VK->Prop
abbrev TT:=St->Hp->(Bool->Hp->Prop)->Prop
abbrev TA:=St->Hp->(List V->Hp->Prop)->Prop
structure Ends where
 nx:St->Hp->Prop
 rt:VK
 bk:St->Hp->Prop:=λ_ _=>False
 ct:St->Hp->Prop:=λ_ _=>False
abbrev TS:=Ends->St->Hp->Prop
def EP (X:Cx) (pins:Ac) (U:St) (Q:VK) (u:Value) (s':Shared):Prop:=∃v H',Inv X pins U H' s'/\RelV v u/\Q v H'
def TP (X:Cx) (pins:Ac) (U:St) (Q:Bool->Hp->Prop) (b:Bool) (s':Shared):Prop:=∃H',Inv X pins U H' s'/\Q b H'
def AP (X:Cx) (pins:Ac) (U:St) (Q:List V->Hp->Prop) (us:Af) (s':Shared):Prop:=∃vs H',Inv X pins U H' s'/\Vals vs us/\Q vs H'
def SP (X:Cx) (pins:Ac) (D:Ends) (f:Flow) (s':Shared):Prop :=
 match f with
 | .next=>∃ai H',Inv X pins ai H' s'/\D.nx ai H'
 | .brk=>∃ai H',Inv X pins ai H' s'/\D.bk ai H'
 | .cont=>∃ai H',Inv X pins ai H' s'/\D.ct ai H'
 | .ret u=>∃v ai H',Inv X pins ai H' s'/\RelV v u/\D.rt v H'
def PE (X:Cx) (e:Expr) (t:TE):Prop :=
 ∀(pins:Ac) (s:Shared) (U:St) (H:Hp) (Q:VK),Inv X pins U H s->t U H Q->wpAny (model X.prog X.w) X.A (eval e X.env) (EP X pins U Q) X.xe s
def PT (X:Cx) (e:Expr) (t:TT):Prop :=
 ∀(pins:Ac) (s:Shared) (U:St) (H:Hp) (Q:Bool->Hp->Prop),Inv X pins U H s->t U H Q->wpAny (model X.prog X.w) X.A (isTrue e X.env (eval e X.env)) (TP X pins U Q) X.xe s
def PW (X:Cx) (e:Expr) (t:TT):Prop :=
 ∀(whole:Sem Value) (pins:Ac) (s:Shared) (U:St) (H:Hp) (Q:Bool->Hp->Prop),Inv X pins U H s->t U H Q->wpAny (model X.prog X.w) X.A (isTrue e X.env whole) (TP X pins U Q) X.xe s
def PW.pt {X:Cx}{e:Expr}{t:TT}(h:PW X e t):PT X e t:=h _
def PA (X:Cx) (es:List Expr) (t:TA):Prop :=
 ∀(pos:Pos) (pins:Ac) (s:Shared) (U:St) (H:Hp) (Q:List V->Hp->Prop),Inv X pins U H s->t U H Q->wpAny (model X.prog X.w) X.A (spliced (backTo pos (starEach es X.env))) (AP X pins U Q) X.xe s
def PS (X:Cx) (st:Stmt) (t:TS):Prop :=
 ∀(pins:Ac) (s:Shared) (U:St) (H:Hp) (D:Ends),Inv X pins U H s->t D U H->wpAny (model X.prog X.w) X.A (exec st X.env) (SP X pins D) X.xe s
def cy (X:Cx) (st:List Stmt) (t:TS):Prop :=
 ∀(pins:Ac) (s:Shared) (U:St) (H:Hp) (D:Ends),Inv X pins U H s->t D U H->wpAny (model X.prog X.w) X.A (execs st X.env) (SP X pins D) X.xe s
def aV {α:Type}{t:Sem α}{Q Q':α->Shared->Prop}{M:Model}{A:Around}{E:Aa}{s:Shared}(h:wpAny M A t Q E s) (hQ:∀a s,Q a s->Q' a s):wpAny M A t Q' E s:=yP h hQ λ_ _ x=>x
section
variable {X:Cx}
def uX (i:Nat):TE:=λU H Q=>∃v,U[i]?=some (some v)/\Q v H
def tC (v:V):TE:=λ_ H Q=>Q v H
def Iy {i:Nat} {x:Str} {pos:Pos} (hN:X.N[i]?=some x) (hv:ri X.env.scope x) (hd:(x==("__debug__" : Str))=false:=by decide) (fX:(x==("__classdict__" : Str))=false:=by decide):PE X (.Name x pos) (uX i):=by
 intro pins s U H Q I h
 obtain ⟨v,e,h⟩:=h
 obtain ⟨m,hn,hl⟩:=I.loc
 obtain ⟨u,r,l⟩:=hl i x v hN e hv
 have fin:EP X pins U Q u s:=⟨v,H,I,r,h⟩
 rcases l with ⟨hk,hm⟩|⟨hk,c,hc,d8⟩
 ·exact wpAny_Name (wpAny_loadName_local I.ok.kind hk hn hm fin) hd
 ·rcases hk with hk|hk
  ·exact wpAny_Name (wpAny_loadName_cell I.ok.kind hk hc d8 fin) hd
  ·exact wpAny_Name (wpAny_loadName_free I.ok.kind hk hc d8 fin fX) hd
def Iz {i j pos}:PE X (.Constant (.int i) j pos) (tC (.int i)):=λ_ _ _ H _ I h=>wpAny_Constant_int ⟨.int i,H,I.tok _,⟨_,rfl⟩,h⟩
def IA {b j pos}:PE X (.Constant (.bool b) j pos) (tC (.bl b)):=λ_ _ _ H _ I h=>Constant_bool ⟨.bl b,H,I,rfl,h⟩
def IB {j pos}:PE X (.Constant .none j pos) (tC .non):=λ_ _ _ H _ I h=>Constant_none ⟨.non,H,I,rfl,h⟩
def IC {x j pos}:PE X (.Constant (.str x) j pos) (tC (.str x)):=λ_ _ _ H _ I h=>Calls.Constant_str ⟨.str x,H,I.tok _,⟨_,rfl⟩,h⟩
def Gl (X:Cx) (x:Str):Prop:=X.env.kindOf x=some .globalImplicit
def oR {E:Aa}{pins:Ac}{s:Shared}{U:St}{H:Hp}{x:Str}{u:Value}{pos:Pos}{Q:Aa}(I:Inv X pins U H s) (hg:Gl X x) (hm:X.mg x=some u) (h:Q u s)
  (hd:(x==("__debug__" : Str))=false:=by decide):wpAny (model X.prog X.w) X.A (eval (.Name x pos) X.env) Q E s :=
 Calls.Name_function_global I.ok.kind hg (Calls.loadGlobal_global (by rw [I.ok.glob];exact I.mod.glob.keeps I.bk) hm h) hd
def lE {E:Aa}{pins:Ac}{s:Shared}{U:St}{H:Hp}{x:Str}{u:Value}{pos:Pos}{Q:Aa}(I:Inv X pins U H s) (hg:Gl X x) (hm:X.mg x=none) (hv:bootBuiltins x=some u) (h:Q u s)
  (hn:x ≠ "__name__" := by decide) (hd:(x==("__debug__" : Str))=false:=by decide):wpAny (model X.prog X.w) X.A (eval (.Name x pos) X.env) Q E s:=by
 obtain ⟨mb,h1,h2⟩:=I.mod.blt
 exact Calls.Name_function_global I.ok.kind hg (Calls.loadGlobal_builtin (by rw [I.ok.glob];exact I.mod.glob.keeps I.bk) hm (by rw [I.ok.blt];exact h1.keeps I.bk) ((h2 x hn).trans hv) h) hd
def uY {x:Str} {v:V} {u:Value} {pos:Pos} (hg:Gl X x) (hm:X.mg x=some u) (r:RelV v u) (hd:(x==("__debug__" : Str))=false:=by decide):PE X (.Name x pos) (tC v) :=
 λ_ _ _ H _ I h=>oR I hg hm ⟨v,H,I,r,h⟩ hd
def ID {x:Str} {v:V} {u:Value} {pos:Pos} (hg:Gl X x) (hm:X.mg x=none) (hv:bootBuiltins x=some u) (r:RelV v u) (hn:x ≠ "__name__" := by decide) (hd:(x==("__debug__" : Str))=false:=by decide):PE X (.Name x pos) (tC v) :=
 λ_ _ _ H _ I h=>lE I hg hm hv ⟨v,H,I,r,h⟩ hn hd
variable {a b:Expr}{ta tb:TE}{pos:Pos}
def tB (t:TE):TT:=λU H Q=>t U H λx H1=>∃c,x=.bl c/\Q c H1
def IE {e:Expr}{t:TE}(h:PE X e t) (he:∀whole,isTrue e X.env whole=(do let v <-whole;standAt e.pos;holding [v] (truthy v)):=by intro _;rfl):PT X e (tB t):=by
 intro pins s U H Q I hw
 refine isTrue_plain (aV (h pins s U H _ I hw) λv s1 ⟨x,H1,I1,r1,q1⟩=>?_) (he _)
 obtain ⟨d,rfl,q⟩:=q1
 cases r1
 exact wy ⟨H1,I1,q⟩
variable {tA rj:TT}{rest:List Expr}
def IF (t u:TT):TT:=λU H Q=>t U H λc H1=>if c=true then u U H1 Q else Q false H1
def IG (t u:TT):TT:=λU H Q=>t U H λc H1=>if c=true then Q true H1 else u U H1 Q
def IH (t:TT):TT:=λU H Q=>t U H λc H1=>Q (!c) H1
def II (ha:PT X a tA):PW X (.BoolOp .And [a] pos) tA:=by
 intro wh pins s U H Q I h
 refine isTrue_and (aV (ha pins s U H Q I h) λc s1 e=>?_)
 cases c with
 | true=>exact isTrue_and_nil e
 | false=>exact e
def IK (ha:PT X a tA):PW X (.BoolOp .Or [a] pos) tA:=by
 intro wh pins s U H Q I h
 refine isTrue_or (aV (ha pins s U H Q I h) λc s1 e=>?_)
 cases c with
 | false=>exact isTrue_or_nil e
 | true=>exact e
def IM (ha:PT X a tA) (hb:PW X (.BoolOp .And (b::rest) pos) rj):PW X (.BoolOp .And (a::b::rest) pos) (IF tA rj):=by
 intro wh pins s U H Q I h
 refine isTrue_and (aV (ha pins s U H _ I h) λc s1 ⟨H1,I1,q1⟩=>?_)
 cases c with
 | true=>exact hb wh pins s1 U H1 Q I1 q1
 | false=>exact ⟨H1,I1,q1⟩
def IQ (ha:PT X a tA) (hb:PW X (.BoolOp .Or (b::rest) pos) rj):PW X (.BoolOp .Or (a::b::rest) pos) (IG tA rj):=by
 intro wh pins s U H Q I h
 refine isTrue_or (aV (ha pins s U H _ I h) λc s1 ⟨H1,I1,q1⟩=>?_)
 cases c with
 | true=>exact ⟨H1,I1,q1⟩
 | false=>exact hb wh pins s1 U H1 Q I1 q1
def IU (ha:PT X a tA):PT X (.UnaryOp .Not a pos) (IH tA):=by
 intro pins s U H Q I h
 exact isTrue_not (ha pins s U H (λc H1=>Q (!c) H1) I h)
def IV (ta tb:TE):TE:=λU H Q=>ta U H λx H1=>∃c,x=.bl c/\if c=true then tb U H1 Q else Q (.bl false) H1
def IW (ta tb:TE):TE:=λU H Q=>ta U H λx H1=>∃c,x=.bl c/\if c=true then Q (.bl true) H1 else tb U H1 Q
def IY (ta:TE):TE:=λU H Q=>ta U H λx H1=>∃c,x=.bl c/\Q (.bl (!c)) H1
def IZ {op}{t:TE}(h:PE X a t):PE X (.BoolOp op [a] pos) t:=λpins s U H Q I hw=>BoolOp_one (h pins s U H Q I hw)
def I_ (ha:PE X a ta) (hb:PE X (.BoolOp .And (b::rest) pos) tb):PE X (.BoolOp .And (a::b::rest) pos) (IV ta tb):=by
 intro pins s U H Q I h
 refine BoolOp_and (aV (ha pins s U H _ I h) λv s1 ⟨x,H1,I1,r1,q1⟩=>?_)
 obtain ⟨c,rfl,q1⟩:=q1
 cases r1
 refine wy ?_
 cases c with
 | true=>exact hb pins s1 U H1 Q I1 q1
 | false=>exact ⟨.bl false,H1,I1,rfl,q1⟩
def Ja (ha:PE X a ta) (hb:PE X (.BoolOp .Or (b::rest) pos) tb):PE X (.BoolOp .Or (a::b::rest) pos) (IW ta tb):=by
 intro pins s U H Q I h
 refine BoolOp_or (aV (ha pins s U H _ I h) λv s1 ⟨x,H1,I1,r1,q1⟩=>?_)
 obtain ⟨c,rfl,q1⟩:=q1
 cases r1
 refine wy ?_
 cases c with
 | false=>exact hb pins s1 U H1 Q I1 q1
 | true=>exact ⟨.bl true,H1,I1,rfl,q1⟩
def Jb (ha:PE X a ta):PE X (.UnaryOp .Not a pos) (IY ta):=by
 intro pins s U H Q I h
 refine UnaryOp_ (aV (ha pins s U H _ I h) λv s1 ⟨x,H1,I1,r1,q1⟩=>?_)
 obtain ⟨c,rfl,q1⟩:=q1
 cases r1
 exact not_of (wy ⟨.bl (!c),H1,I1,rfl,q1⟩)
def Jc (t:TT) (ta tb:TE):TE:=λU H Q=>t U H λc H1=>if c=true then ta U H1 Q else tb U H1 Q
def Jd {c:Expr}(hc:PT X c tA) (ha:PE X a ta) (hb:PE X b tb):PE X (.IfExp c a b pos) (Jc tA ta tb):=by
 intro pins s U H Q I h
 refine wpAny_IfExp (aV (hc pins s U H _ I h) λd s1 ⟨H1,I1,q1⟩=>?_)
 cases d with
 | true=>exact ha pins s1 U H1 Q I1 q1
 | false=>exact hb pins s1 U H1 Q I1 q1
end
def a6 (K:PySem.W.Frag) (H:Hp) (a:Addr) (xs:List V):Prop :=
 Rd H a (.lst xs) \/
  ∃(o:Obj) (its:Array Value) (n:Nat),K.lookup a=some o/\o.cls=.type "list" /\ o.dict=none/\o.data=.seq its n/\its.size<=sizeLine/\Vals xs its.toList
def a9 (K:PySem.W.Frag) (H:Hp) (a:Addr) (xs:List V):Prop :=
 Rd H a (.tup xs) \/
  ∃(o:Obj) (its:Array Value) (n:Nat),K.lookup a=some o/\o.cls=.type "tuple" /\ o.data=.seq its n/\its.size<=sizeLine/\Vals xs its.toList
def Bw:Value->Option V
 | .none=>some .non
 | .bool b=>some (.bl b)
 | .int i _=>some (.int i)
 | .str x _=>some (.str x)
 | .bytes b _=>some (.byt b)
 | .float b _=>some (.flt b)
 | .ref a=>some (.ref a)
 | .type n=>some (.ty n)
 | _=>none
def RelV.abs {x:V}{u:Value}(r:RelV x u):Bw u=some x:=by
 cases x with
 | non=>cases r;rfl
 | bl _=>cases r;rfl
 | int _=>obtain ⟨t,rfl⟩:=r;rfl
 | str _=>obtain ⟨t,rfl⟩:=r;rfl
 | byt _=>obtain ⟨t,rfl⟩:=r;rfl
 | flt _=>obtain ⟨t,rfl⟩:=r;rfl
 | ref _=>cases r;rfl
 | ty _=>cases r;rfl
def RelV.inj {x y:V}{u:Value}(r:RelV x u) (q:RelV y u):x=y:=Option.some.inj (r.abs.symm.trans q.abs)
theorem Vals.inj:∀{xs ys:List V}{us:Af},Vals xs us->Vals ys us->xs=ys
 | _,_,_,.nil,.nil=>rfl
 | _,_,_,.cons r t,.cons r' t'=>by rw [r.inj r',Vals.inj t t']
section
variable {X:Cx}{pins:Ac}{U:St}{H:Hp}{s:Shared}{a:Addr}{xs ys:List V}
def a6.of {K:PySem.W.Frag}(h:H a=some (.lst xs)):a6 K H a xs:=.inl (.inl h)
def a9.of {K:PySem.W.Frag}(h:H a=some (.tup xs)):a9 K H a xs:=.inl (.inl h)
theorem Inv.list (I:Inv X pins U H s) (h:a6 X.K H a xs):∃its:Af,Vals xs its/\PlainL s.heap a its.toArray/\xs.length<=sizeLine:=by
 rcases h with h|⟨o,its,n,hk,hc,hd,hs,hz,r⟩
 ·obtain ⟨z,its,n,r,e⟩:=h.ok I.hok
  exact ⟨its,r,⟨_,n,e,rfl,rfl,rfl⟩,z⟩
 ·refine ⟨its.toList,r,⟨o,n,I.kIn a o hk,hc,hd,by simpa using hs⟩,?_⟩
  have e:=r.length
  simp only [Array.length_toList] at e
  omega
def Inv.tuple (I:Inv X pins U H s) (h:a9 X.K H a xs):∃its:Af,Vals xs its/\IsTup s.heap a its.toArray/\xs.length<=sizeLine:=by
 rcases h with h|⟨o,its,n,hk,hc,hs,hz,r⟩
 ·obtain ⟨z,its,r,p⟩:=h.ok I.hok
  exact ⟨its,r,p,z⟩
 ·refine ⟨its.toList,r,⟨o,I.kIn a o hk,hc,n,by simpa using hs⟩,?_⟩
  have e:=r.length
  simp only [Array.length_toList] at e
  omega
def Inv.list_inj (I:Inv X pins U H s) (h:a6 X.K H a xs) (h':a6 X.K H a ys):xs=ys:=by
 obtain ⟨its,r,⟨o,n,e,_,_,d⟩,_⟩:=I.list h
 obtain ⟨its',r',⟨o',n',e',_,_,d'⟩,_⟩:=I.list h'
 rw [e] at e';cases e'
 rw [d] at d'
 injection d' with d1 _
 have:its=its':=by simpa using congrArg Array.toList d1
 subst this
 exact r.inj r'
def Inv.tuple_inj (I:Inv X pins U H s) (h:a9 X.K H a xs) (h':a9 X.K H a ys):xs=ys:=by
 obtain ⟨its,r,⟨o,e,_,n,d⟩,_⟩:=I.tuple h
 obtain ⟨its',r',⟨o',e',_,n',d'⟩,_⟩:=I.tuple h'
 rw [e] at e';cases e'
 rw [d] at d'
 injection d' with d1 _
 have:its=its':=by simpa using congrArg Array.toList d1
 subst this
 exact r.inj r'
end
abbrev Cx.wish (X:Cx) (E:Aa):Cx:={ X with xe:=E }
abbrev Cx.nox (X:Cx):Cx:=X.wish λ_ _=>False
def Cx.Ok.wish {X:Cx}(ok:X.Ok) (E:Aa):(X.wish E).Ok :=
 ⟨ok.mod,ok.kind,ok.glob,ok.blt,ok.above,ok.inj,ok.has,ok.cab,ok.hd,ok.frames,ok.stk,ok.exf,ok.bs,ok.bsz,ok.noex,ok.exfs,ok.funs,ok.frf⟩
def Cx.Ok.unwish {X:Cx}{E:Aa}(ok:(X.wish E).Ok):X.Ok :=
 ⟨ok.mod,ok.kind,ok.glob,ok.blt,ok.above,ok.inj,ok.has,ok.cab,ok.hd,ok.frames,ok.stk,ok.exf,ok.bs,ok.bsz,ok.noex,ok.exfs,ok.funs,ok.frf⟩
section
variable {X:Cx}{pins:Ac}{U:St}{H:Hp}{s:Shared}{E:Aa}
def Inv.wish (I:Inv X pins U H s) (E:Aa):Inv (X.wish E) pins U H s:=⟨I.ok.wish E,I.os,I.bare,I.base,I.loc,I.cell,I.free,I.freeC,I.pin,I.hok,I.len⟩
def Inv.unwish (I:Inv (X.wish E) pins U H s):Inv X pins U H s:=⟨I.ok.unwish,I.os,I.bare,I.base,I.loc,I.cell,I.free,I.freeC,I.pin,I.hok,I.len⟩
def SP.unwish {D:Ends}{f:Flow}{s':Shared}(h:SP (X.wish E) pins D f s'):SP X pins D f s':=by
 cases f with
 | next=>obtain ⟨ai,H',I,q⟩:=h;exact ⟨ai,H',I.unwish,q⟩
 | brk=>obtain ⟨ai,H',I,q⟩:=h;exact ⟨ai,H',I.unwish,q⟩
 | cont=>obtain ⟨ai,H',I,q⟩:=h;exact ⟨ai,H',I.unwish,q⟩
 | ret u=>obtain ⟨v,ai,H',I,r,q⟩:=h;exact ⟨v,ai,H',I.unwish,r,q⟩
def PE.nox {e:Expr}{t:TE}(h:PE X.nox e t):PE X e t:=λpins s U H Q I hw =>
 yP (h pins s U H Q (I.wish _) hw) (λ_ _ ⟨v,H',I',r,q⟩=>⟨v,H',I'.unwish,r,q⟩) λ_ _ z=>z.elim
def PT.nox {e:Expr}{t:TT}(h:PT X.nox e t):PT X e t:=λpins s U H Q I hw =>
 yP (h pins s U H Q (I.wish _) hw) (λ_ _ ⟨H',I',q⟩=>⟨H',I'.unwish,q⟩) λ_ _ z=>z.elim
def cy.nox {st:List Stmt}{t:TS}(h:cy X.nox st t):cy X st t:=λpins s U H D I hw =>
 yP (h pins s U H D (I.wish _) hw) (λ_ _ q=>q.unwish) λ_ _ z=>z.elim
end
section
variable {X:Cx}{st:Stmt}{rest:List Stmt}{t u:TS}{e:Expr}{te:TE}{pos:Pos}
def Je:TS:=λD U H=>D.nx U H
def Jf (t u:TS):TS:=λD U H=>t { D with nx:=u D } U H
def Jg:cy X [] Je:=λ_ _ U H _ I h=>wpAny_execs_nil ⟨U,H,I,h⟩
def Jh (h1:PS X st t) (h2:cy X rest u):cy X (st::rest) (Jf t u):=by
 intro pins s U H D I h
 refine wpAny_execs_cons (aV (h1 pins s U H { D with nx:=u D } I h) λf s1 q=>?_)
 cases f with
 | next =>
  obtain ⟨ai,H',I',q⟩:=q
  exact h2 pins s1 ai H' D I' q
 | ret v=>exact q
 | brk=>exact q
 | cont=>exact q
def Ji (h1:PS X st t):cy X [st] t:=by
 intro pins s U H D I h
 refine wpAny_execs_cons (aV (h1 pins s U H D I h) λf s1 q=>?_)
 cases f with
 | next=>exact wpAny_execs_nil q
 | ret v=>exact q
 | brk=>exact q
 | cont=>exact q
def Inv.quiet {pins:Ac}{U:St}{H:Hp}{s:Shared}(I:Inv X pins U H s):interactive X.env=false:=by simp [interactive,I.ok.kind]
def Jj (te:TE):TS:=λD U H=>te U H λ_ H1=>D.nx U H1
def Jk (he:PE X e te) (hs:swapsWith e none pos.line X.env=pure false:=by rfl):PS X (.Expr e pos) (Jj te):=by
 intro pins s U H D I h
 exact wpAny_Expr_any (aV (he pins s U H _ I h) λv s1 ⟨x,H1,I1,r1,q1⟩=>⟨U,H1,I1,q1⟩) I.quiet hs
def Jl (te:TE):TS:=λD U H=>te U H D.rt
def Jm (he:PE X e te):PS X (.Return (some e) pos) (Jl te):=by
 intro pins s U H D I h
 exact wpAny_Return_some (aV (he pins s U H _ I h) λv s1 ⟨x,H1,I1,r1,q1⟩=>⟨x,U,H1,I1,r1,q1⟩)
def Jn (c:TT) (t u:TS):TS:=λD U H=>c U H λb H1=>if b=true then t D U H1 else u D U H1
def Jo {c:Expr}{a b:List Stmt}{tc:TT}(hc:PT X c tc) (ha:cy X a t) (hb:cy X b u):PS X (.If c a b pos) (Jn tc t u):=by
 intro pins s U H D I h
 refine wpAny_If (aV (hc pins s U H _ I h) λd s1 ⟨H1,I1,q1⟩=>?_)
 cases d with
 | true=>exact ha pins s1 U H1 D I1 q1
 | false=>exact hb pins s1 U H1 D I1 q1
def Bx:TS:=λ_ _ _=>False
def Jp:PS X st Bx:=λ_ _ _ _ _ _ h=>h.elim
def Jq {eR:List Stmt}:cy X eR Bx:=λ_ _ _ _ _ _ h=>h.elim
end
abbrev TG:=V->St->Hp->(St->Hp->Prop)->Prop
abbrev lF:=List V->St->Hp->(St->Hp->Prop)->Prop
def PG (X:Cx) (target:Expr) (t:TG):Prop :=
 ∀(pins:Ac) (s:Shared) (U:St) (H:Hp) (v:V) (u:Value) (Q:St->Hp->Prop),Inv X pins U H s->RelV v u->t v U H Q ->
  wpAny (model X.prog X.w) X.A (assign target X.env u) (λ_ s'=>∃ai H',Inv X pins ai H' s'/\Q ai H') X.xe s
def rk (X:Cx) (ts:List Expr) (t:lF):Prop :=
 ∀(pins:Ac) (s:Shared) (U:St) (H:Hp) (vs:List V) (us:Af) (Q:St->Hp->Prop),Inv X pins U H s->Vals vs us->t vs U H Q ->
  wpAny (model X.prog X.w) X.A (assignInOrder ((assignEach ts X.env).map (·.2)) us) (λ_ s'=>∃ai H',Inv X pins ai H' s'/\Q ai H') X.xe s
abbrev rm:=V->V->Hp->VK->Prop
def uZ (X:Cx) (op:Operator) (t:rm):Prop :=
 ∀(pins:Ac) (s:Shared) (U:St) (H:Hp) (x y:V) (v u:Value) (Q:VK),Inv X pins U H s->RelV x v->RelV y u->t x y H Q ->
  wpAny (model X.prog X.w) X.A (inplaceOp op v u) (EP X pins U Q) X.xe s
section
variable {X:Cx}{pos:Pos}
def jX (i:Nat):TG:=λv U H Q=>Q (U.set i (some v)) H
def wq {i:Nat}{x:Str}(hN:X.N.Nodup) (hi:X.N[i]?=some x) (hx:Loc X.env.scope x) (hf:X.fn x=true\/X.env.scope.names.lookup x=some .local:=by first|exact .inl rfl|exact .inr rfl|assumption):PG X (.Name x pos) (jX i):=by
 intro pins s U H v u Q I r h
 exact wpAny_assign_Name (oQ I hN hi hx r (λs' I'=>⟨_,H,I',h⟩) hf)
def ro:lF:=λvs U H Q=>vs=[]/\Q U H
def lG (t:TG) (u:lF):lF:=λvs U H Q=>∃v r,vs=v::r/\t v U H λai H'=>u r ai H' Q
def rq:rk X [] ro:=by
 intro pins s U H vs us Q I r h
 obtain ⟨e,h⟩:=h
 subst e
 cases r
 exact assignInOrder_nil ⟨U,H,I,h⟩
def kf {e:Expr}{es:List Expr}{t:TG}{u:lF}(h1:PG X e t) (h2:rk X es u)
  (hs:(assignEach (e::es) X.env).map (·.2)=assign e X.env::(assignEach es X.env).map (·.2):=by rfl):rk X (e::es) (lG t u):=by
 intro pins s U H vs us Q I r h
 obtain ⟨v,vr,e1,h⟩:=h
 subst e1
 cases r with
 | cons r rr =>
  rw [hs]
  refine assignInOrder_cons (aV (h1 pins s U H _ _ _ I r h) λ_ s1 ⟨aw,H1,I1,q1⟩=>?_)
  exact h2 pins s1 aw H1 _ _ Q I1 rr q1
def rz (K:PySem.W.Frag) (n:Nat) (t:lF):TG:=λv U H Q=>∃a xs,v=.ref a/\a9 K H a xs/\xs.length=n/\t xs U H Q
def rA {es:List Expr}{k:Nat}{t:lF}{n:Nat}(hc:X.calm=true) (h:rk X es t)
  (hn:(assignEach es X.env).length=n:=by rfl) (bH:(assignEach es X.env).findIdx? (·.1)=none:=by rfl):PG X (.Tuple es k pos) (rz X.K n t):=by
 intro pins s U H v u Q I r hw
 obtain ⟨a,xs,e1,hq,hl,hw⟩:=hw
 subst e1
 cases r
 obtain ⟨its,rv,ht,hz⟩:=I.tuple hq
 refine assign_Tuple_tuple (I.ok.hd hc) ht (by simp [hn,<-hl,rv.length]) bH λh' hx=>?_
 have I1:Inv X pins U H { s with heap:=h' }:=I.kept (t':=s.toks) λb o e=>hx b o (yK (ym e)) e
 exact h pins _ U H xs _ Q I1 (by simpa using rv) hw
def Jr (te:TE) (g:TG):TS:=λD U H=>te U H λx H1=>g x U H1 D.nx
def Js {i:Nat}{x:Str}{e:Expr}{te:TE}{pos':Pos}(hN:X.N.Nodup) (hi:X.N[i]?=some x) (hx:Loc X.env.scope x) (he:PE X e te) (hs:swapsWith e (some (.Name x pos')) pos.line X.env=pure false:=by rfl) (hf:X.fn x=true\/X.env.scope.names.lookup x=some .local:=by first|exact .inl rfl|exact .inr rfl|assumption) :
  PS X (.Assign [.Name x pos'] e pos) (Jr te (jX i)):=by
 intro pins s U H D I h
 refine wpAny_Assign_Name (aV (he pins s U H _ I h) λv s1 ⟨y,H1,I1,r1,q1⟩=>?_) hs
 exact oQ I1 hN hi hx r1 (λs2 I2=>⟨_,H1,I2,q1⟩) hf
def Jt (i:Nat) (te:TE) (ti:rm):TS:=λD U H=>∃x,U[i]?=some (some x)/\te U H λy H1=>ti x y H1 λz H2=>D.nx (U.set i (some z)) H2
def Ju {i:Nat}{x:Str}{e:Expr}{te:TE}{op:Operator}{ti:rm}{pos':Pos}(hN:X.N.Nodup) (hi:X.N[i]?=some x) (hx:Loc X.env.scope x) (he:PE X e te) (ho:uZ X op ti) (hf:X.fn x=true\/X.env.scope.names.lookup x=some .local:=by first|exact .inl rfl|exact .inr rfl|assumption) :
  PS X (.AugAssign (.Name x pos') op e pos) (Jt i te ti):=by
 intro pins s U H D I h
 obtain ⟨v,e1,h⟩:=h
 obtain ⟨m,hn,hl⟩:=I.loc
 have Jv:ri X.env.scope x:=by rcases hx with k|k;exact .inl k;exact .inr (.inl k)
 obtain ⟨u,r,l⟩:=hl i x v hi e1 Jv
 refine wpAny_AugAssign_Name ?_
 have go:wpAny (model X.prog X.w) X.A (eval e X.env) (λw af=>wpAny (model X.prog X.w) X.A (inplaceOp op u w) (λr aR=>wpAny (model X.prog X.w) X.A (storeName X.env x r) (λ_=>SP X pins D .next) X.xe aR) X.xe af) X.xe s:=by
  refine aV (he pins s U H _ I h) λw s1 ⟨y,H1,I1,r1,q1⟩=>?_
  refine aV (ho pins s1 U H1 v y u w _ I1 r r1 q1) λz s2 ⟨zv,H2,I2,r2,q2⟩=>?_
  exact oQ I2 hN hi hx r2 (λs3 I3=>⟨_,H2,I3,q2⟩) hf
 rcases l with ⟨hk,hm⟩|⟨hk,c,hc,d8⟩
 ·exact wpAny_loadName_local I.ok.kind hk hn hm go
 ·rcases hk with hk|hk
  ·exact wpAny_loadName_cell I.ok.kind hk hc d8 go
  ·rcases hx with k|k
   ·have:X.env.scope.names.lookup x=some .free:=hk
    rw [k] at this;cases this
   ·have:X.env.scope.names.lookup x=some .free:=hk
    rw [k] at this;cases this
def Jw (f:Int->Int->Int):rm:=λx y H Q=>∃i j,x=.int i/\y=.int j/\Q (.int (f i j)) H
def Jx:uZ X .Add (Jw λi j=>i+j):=by
 intro pins s U H x y v u Q I r1 r2 h
 obtain ⟨i,j,e1,e2,q⟩:=h
 subst e1;subst e2
 obtain ⟨t,rfl⟩:=r1
 obtain ⟨t',rfl⟩:=r2
 exact iadd_int ⟨.int _,H,I.tok _,⟨_,rfl⟩,q⟩
def Jy (c:TT) (tb:TS):TS:=λD U H=>∃W:Nat->St->Hp->Prop,(∃m,W m U H)/\∀m U H,W m U H ->
 c U H λb H1=>if b=true then ∃N:St->Hp->Prop,(∀ai H',N ai H'->∃m',m'<m/\W m' ai H')/\tb { D with nx:=N,ct:=N,bk:=D.nx } U H1 else D.nx U H1
def Jz {c:Expr}{body:List Stmt}{tc:TT}{tb:TS}(hp:PassesOwn (model X.prog X.w) X.A X.env X.xe) (hc:PT X c tc) (hb:cy X body tb):PS X (.While c body [] pos) (Jy tc tb):=by
 intro pins s U H D I h
 obtain ⟨W,⟨m0,w0⟩,turn⟩:=h
 refine wpAny_While (codeAny_whileLoop (λn s'=>∃ai H',Inv X pins ai H' s'/\W n ai H') ?_ m0 ⟨U,H,I,w0⟩)
 rintro n s1 ⟨aw,H1,I1,w1⟩
 refine wpAny_passesOwn hp (aV (hc pins s1 aw H1 _ I1 (turn n aw H1 w1)) λb s2 ⟨H2,I2,q2⟩=>?_)
 cases b with
 | true =>
  obtain ⟨N,hN,q2⟩:=q2
  rw [zx rfl]
  refine wpAny_passesOwn hp (aV (hb pins s2 aw H2 _ I2 q2) λf s3 q3=>?_)
  cases f with
  | next =>
   obtain ⟨ay,H3,I3,n3⟩:=q3
   obtain ⟨m',hm,w3⟩:=hN ay H3 n3
   exact ⟨m',hm,ay,H3,I3,w3⟩
  | cont =>
   obtain ⟨ay,H3,I3,n3⟩:=q3
   obtain ⟨m',hm,w3⟩:=hN ay H3 n3
   exact ⟨m',hm,ay,H3,I3,w3⟩
  | brk=>exact q3
  | ret v=>exact q3
 | false =>
  rw [zH Bool.false_ne_true]
  exact wpAny_execs_nil ⟨aw,H2,I2,q2⟩
end
structure It where
 go:Nat->Hp->Prop
 yld:Nat->Hp->V->Hp->Prop
 stop:Nat->Hp->Prop
def cU (X:Cx) (pins:Ac) (H:Hp) (b:Addr):Prop :=
 H b=none/\b≠X.env.locals/\b∉X.fs/\(b∈X.ex\/X.s₀.heap.objs.size<=b)/\(∀x c,X.env.cells.lookup x=some c->c≠b)/\∀p∈X.pn++pins,p.1≠b
def Inv.fpOk {X:Cx}{pins:Ac}{U:St}{H H':Hp}{s:Shared}{b:Addr}(I:Inv X pins U H s) (hb:s.heap.objs.size<=b) (hn:H' b=none):cU X pins H' b:=by
 refine ⟨hn,Nat.ne_of_gt (jm I.lt hb),I.nofs hb,.inr (y4 I.sz hb),λx c e z=>?_,λp hp z=>?_⟩
 ·obtain ⟨v,q⟩:=I.cell x c e
  exact absurd (jm q.lt (by rw [z];exact hb)) (Nat.lt_irrefl _)
 ·exact absurd (jm (ym (I.pin p hp).1) (by rw [z];exact hb)) (Nat.lt_irrefl _)
structure Turn (P:Program) (w:World) (K:PySem.W.Frag) (tg:Expr) (J:It) (fp:Ae) (it:Addr) (tn:Nat->Heap->Prop):Prop where
 mem:it∈fp
 obj:∀i h,tn i h->∀b∈fp,∃o,h.get? b=some o/\∀v,o.data ≠ .cell v
 keep:∀i h h',tn i h->(∀b∈fp,∀o,h.get? b=some o->h'.get? b=some o)->tn i h'
 item:∀(X:Cx),X.prog=P->X.w=w->X.K=K->X.calm=true->∀(i:Nat) (pins:Ac) (s:Shared) (U:St) (H:Hp) (E:Aa),Inv X pins U H s->(∀b∈fp,cU X pins H b)->tn i s.heap->J.go i H ->
  wpAny (model P w) X.A (pyNext (.ref it)) (λr s1=>∃u,r=some u /\
   wpAny (model P w) X.A (letOwnedTupleGo tg (.ref it) u) (λ_ s2=>∃x H',Inv X pins U H' s2/\RelV x u/\J.yld i H x H'/\tn (i+1) s2.heap/\∀b∈fp,H' b=none) E s1) E s
 done:∀(X:Cx),X.prog=P->X.w=w->X.K=K->X.calm=true->∀(i:Nat) (pins:Ac) (s:Shared) (U:St) (H:Hp) (E:Aa),Inv X pins U H s->(∀b∈fp,cU X pins H b)->tn i s.heap->J.stop i H ->
  wpAny (model P w) X.A (pyNext (.ref it)) (λr s1=>r=none/\Inv X pins U H s1) E s
 self:∀(A:Around) (i:Nat) (s:Shared) (Q:Aa) (E:Aa),tn i s.heap->Q (.ref it) s->wpAny (model P w) A (pyIter (.ref it)) Q E s
abbrev TI:=St->Hp->(It->Hp->Prop)->Prop
def By (X:Cx) (pins:Ac) (U:St) (tg:Expr) (R:It->Hp->Prop) (rB:Value) (s2:Shared):Prop :=
 ∃(it:Addr) (fp:Ae) (tn:Nat->Heap->Prop) (J:It) (H':Hp),rB=.ref it/\Inv X pins U H' s2/\Turn X.prog X.w X.K tg J fp it tn/\tn 0 s2.heap/\(∀b∈fp,cU X pins H' b)/\R J H'
def PI (X:Cx) (tg iter:Expr) (wi:TI):Prop :=
 ∀(pins:Ac) (s:Shared) (U:St) (H:Hp) (R:It->Hp->Prop),Inv X pins U H s->wi U H R ->
  wpAny (model X.prog X.w) X.A (eval iter X.env) (λv s1=>wpAny (model X.prog X.w) X.A (pyIter v) (By X pins U tg R) X.xe s1) X.xe s
def rD {M:Model}{A:Around}{E:Aa}{s:Shared}{tg:Expr}{it:Addr}{u:Value}{o:Obj}{n:String}{vs:Array Value}{Q:Unit->Shared->Prop}(ho:s.heap.get? it=some o) (hc:o.cls=.type n) (hd:o.data=.fields vs)
  (hn:["enumerate", "zip", "dict_itemiterator", "dict_reverseitemiterator", "odict_iterator", "itertools.zip_longest", "itertools.pairwise"].contains n=false) (hQ:Q () s):wpAny M A (letOwnedTupleGo tg (.ref it) u) Q E s:=by
 unfold letOwnedTupleGo
 cases tg<;>first
  | exact zM hQ
  | (cases u<;>first
    | exact zM hQ
    | (refine zt (wpAny_load ho ?_)
       rw [hc,hd]
       show wpAny M A (if (["enumerate", "zip", "dict_itemiterator", "dict_reverseitemiterator", "odict_iterator", "itertools.zip_longest", "itertools.pairwise"].contains n&&vs[0]?==some (rawInt _))=true then _ else _) Q E s
       rw [zH (by intro h;rw [hn,Bool.false_and] at h;cases h)]
       exact zM hQ))
def rE (K:PySem.W.Frag) (a:Addr):It :=
 ⟨λi H=>∃xs x,a6 K H a xs/\xs[i]?=some x,λi H x H'=>H'=H/\∀xs,a6 K H a xs->xs[i]?=some x,λi H=>∃xs,a6 K H a xs/\xs.length<=i⟩
def nq (K:PySem.W.Frag) (a:Addr):It :=
 ⟨λi H=>∃xs x,a9 K H a xs/\xs[i]?=some x,λi H x H'=>H'=H/\∀xs,a9 K H a xs->xs[i]?=some x,λi H=>∃xs,a9 K H a xs/\xs.length<=i⟩
def oS (lo:Int) (n:Nat):It:=⟨λi _=>i<n,λi H x H'=>H'=H/\x=.int (lo+i),λi _=>n<=i⟩
theorem JA {P:Program}{w:World}{K:PySem.W.Frag}{tg:Expr}(a it:Addr):Turn P w K tg (rE K a) [it] it (λi h=>h.IsListIter it a i) where
 mem:=by simp
 obj:=λi h st b hb=>by
  have e:b=it:=by simpa using hb
  subst e
  obtain ⟨o,e,c,d⟩:=st
  exact ⟨o,e,λv z=>by rw [d] at z;cases z⟩
 keep:=λi h h' st k=>st.at λo e=>k it (by simp) o e
 item:=by
  intro X hP hw hK hc i pins s U H E I hf st hg
  subst hP hw hK
  obtain ⟨xs,x,hq,hx⟩:=hg
  obtain ⟨its,rv,p,hz⟩:=I.list hq
  obtain ⟨u,hu,ru⟩:=rv.get hx
  obtain ⟨f0,f1,f2,f3,f4,f5⟩:=hf it (by simp)
  refine wpAny_pyNext_list_item st p.isList (x:=u) (by simpa using hu) λh' bx sb=>?_
  have I1:Inv X pins U H { s with heap:=h' }:=I.turned (t':=s.toks) (λb o hb e=>(sb.2 b hb).trans e) f0 f1 f3 f4 f5
  obtain ⟨o,e,c,d⟩:=id bx
  exact ⟨u,rfl,rD (s:={ s with heap:=h' }) e c d (by decide) ⟨x,H,I1,ru,⟨rfl,λys hy=>by rw [I.list_inj hy hq];exact hx⟩,bx,λb hb=>(hf b hb).1⟩⟩
 done:=by
  intro X hP hw hK hc i pins s U H E I hf st hg
  subst hP hw hK
  obtain ⟨xs,hq,hx⟩:=hg
  obtain ⟨its,rv,p,hz⟩:=I.list hq
  obtain ⟨f0,f1,f2,f3,f4,f5⟩:=hf it (by simp)
  have hl:=rv.length
  exact wpAny_pyNext_list_end (I.ok.hd hc) st p.isList (by simp;omega) λh' eb=>⟨rfl,I.turned (t':=s.toks) (λb o hb e=>eb b o hb e) f0 f1 f3 f4 f5⟩
 self:=λ_ _ _ _ _ st h=>wpAny_pyIter_listiter st h
def JB {P:Program}{w:World}{K:PySem.W.Frag}{tg:Expr}(a it:Addr):Turn P w K tg (nq K a) [it] it (λi h=>h.IsTupleIter it a i) where
 mem:=by simp
 obj:=λi h st b hb=>by
  have e:b=it:=by simpa using hb
  subst e
  obtain ⟨o,e,c,d⟩:=st
  exact ⟨o,e,λv z=>by rw [d] at z;cases z⟩
 keep:=λi h h' st k=>st.at λo e=>k it (by simp) o e
 item:=by
  intro X hP hw hK hc i pins s U H E I hf st hg
  subst hP hw hK
  obtain ⟨xs,x,hq,hx⟩:=hg
  obtain ⟨its,rv,p,hz⟩:=I.tuple hq
  obtain ⟨u,hu,ru⟩:=rv.get hx
  obtain ⟨f0,f1,f2,f3,f4,f5⟩:=hf it (by simp)
  refine wpAny_pyNext_tuple_item st (show s.heap.IsTuple a its.toArray from p) (x:=u) (by simpa using hu) λh' bx sb=>?_
  have I1:Inv X pins U H { s with heap:=h' }:=I.turned (t':=s.toks) (λb o hb e=>(sb.2 b hb).trans e) f0 f1 f3 f4 f5
  obtain ⟨o,e,c,d⟩:=id bx
  exact ⟨u,rfl,rD (s:={ s with heap:=h' }) e c d (by decide) ⟨x,H,I1,ru,⟨rfl,λys hy=>by rw [I.tuple_inj hy hq];exact hx⟩,bx,λb hb=>(hf b hb).1⟩⟩
 done:=by
  intro X hP hw hK hc i pins s U H E I hf st hg
  subst hP hw hK
  obtain ⟨xs,hq,hx⟩:=hg
  obtain ⟨its,rv,p,hz⟩:=I.tuple hq
  obtain ⟨f0,f1,f2,f3,f4,f5⟩:=hf it (by simp)
  have hl:=rv.length
  exact wpAny_pyNext_tuple_end (I.ok.hd hc) st (show s.heap.IsTuple a its.toArray from p) (by simp;omega) λh' eb=>⟨rfl,I.turned (t':=s.toks) (λb o hb e=>eb b o hb e) f0 f1 f3 f4 f5⟩
 self:=λ_ _ _ _ _ st h=>wpAny_pyIter_tupleiter st h
theorem JC {P:Program}{w:World}{K:PySem.W.Frag}{tg:Expr}(it:Addr) (lo:Int) (n:Nat):Turn P w K tg (oS lo n) [it] it (λi h=>IsRangeIter h it (lo+(i:Nat)*1) ((n:Int)-(i:Nat)) 1) where
 mem:=by simp
 obj:=λi h st b hb=>by
  have e:b=it:=by simpa using hb
  subst e
  exact ⟨_,st,λv z=>by
   have z':Data.fields _=Data.cell v:=z
   cases z'⟩
 keep:=λi h h' st k=>k it (by simp) _ st
 item:=by
  intro X hP hw hK hc i pins s U H E I hf st hg
  subst hP hw hK
  obtain ⟨f0,f1,f2,f3,f4,f5⟩:=hf it (by simp)
  have W:=Walks.range (prog:=X.prog) (w:=X.w) (I.ok.hd hc) it lo 1 n
  refine W.item i s _ _ hg st λv h' tk hv bx kk=>?_
  obtain ⟨t,rfl⟩:=hv
  have I1:Inv X pins U H { s with heap:=h',toks:=tk }:=I.turned (λb o hb e=>kk b o (by simpa using hb) e) f0 f1 f3 f4 f5
  refine ⟨_,rfl,rD (s:={ s with heap:=h',toks:=tk }) (n := "range_iterator") bx rfl rfl (by decide) ⟨.int (lo+i),H,I1,⟨t,?_⟩,⟨rfl,rfl⟩,bx,λb hb=>(hf b hb).1⟩⟩
  rw [Int.mul_one]
 done:=by
  intro X hP hw hK hc i pins s U H E I hf st hg
  subst hP hw hK
  obtain ⟨f0,f1,f2,f3,f4,f5⟩:=hf it (by simp)
  exact wpAny_pyNext_range_end (I.ok.hd hc) st (by have:n<=i:=hg;omega) λh' eb=>⟨rfl,I.turned (t':=s.toks) (λb o hb e=>eb b o hb e) f0 f1 f3 f4 f5⟩
 self:=λ_ _ _ _ _ st h=>wpAny_pyIter_rangeiter st h
section
variable {X:Cx}{tg:Expr}
theorem JD {pins:Ac}{U:St}{H:Hp}{s:Shared}{R:It->Hp->Prop}{E:Aa}{lo hi:Int}{t u v:Tok}{tk:Nat}(I:Inv X pins U H s) (h1 : -(2 ^ 62)<=lo) (h2:lo<2 ^ 62) (h3 : -(2 ^ 62)<=hi) (h4:hi<2 ^ 62)
  (q:R (oS lo (hi-lo).toNat) H):wpAny (model X.prog X.w) X.A (pyIter (.ref s.heap.objs.size)) (By X pins U tg R) E { s with heap:=s.heap.push { cls:=.type "range", data:=.fields #[.int lo t,.int hi u,.int 1 v] },toks:=tk }:=by
 refine wpAny_pyIter_range (IsRange.new ..) (small_one h1 h2 h3 h4) ?_
 have I1:Inv X pins U H { s with heap:=s.heap.push { cls:=.type "range", data:=.fields #[.int lo t,.int hi u,.int 1 v] },toks:=tk }:=I.kept λb o e=>yk _ e
 refine ⟨(s.heap.push { cls:=.type "range", data:=.fields #[.int lo t,.int hi u,.int 1 v] }).objs.size,[(s.heap.push { cls:=.type "range", data:=.fields #[.int lo t,.int hi u,.int 1 v] }).objs.size],_,_,H,rfl,
  I1.kept (t':=tk) λb o e=>yk _ e,JC _ lo (hi-lo).toNat,?_,λb hb=>?_,q⟩
 ·have e1:lo+((0:Nat):Int)*1=lo:=by simp
  have e2:(((hi-lo).toNat:Nat):Int)-((0:Nat):Int)=Builtin.Range.rangeSize lo hi 1:=by rw [rangeSize_one];split<;>omega
  show IsRangeIter _ _ (lo+((0:Nat):Int)*1) ((((hi-lo).toNat:Nat):Int)-((0:Nat):Int)) 1
  rw [e1,e2]
  exact yY _ rfl
 ·have e:b=(s.heap.push { cls:=.type "range", data:=.fields #[.int lo t,.int hi u,.int 1 v] }).objs.size:=by simpa using hb
  subst e
  exact I1.fpOk (ye _) (I1.hok.fresh (ye _))
def fY (ta:TA):TI:=λU H R=>ta U H λvs H1=>∃j:Int,vs=[.int j] /\ -(2 ^ 62)<=j/\j<2 ^ 62/\R (oS 0 j.toNat) H1
def u7 (ta:TA):TI:=λU H R=>ta U H λvs H1=>∃i j:Int,vs=[.int i,.int j]/\(-(2 ^ 62)<=i/\i<2 ^ 62 /\ -(2 ^ 62)<=j/\j<2 ^ 62)/\R (oS i (j-i).toNat) H1
theorem JE {a:Expr} {ta:TA} {p pos:Pos} (hg:Gl X "range") (hm:X.mg "range" = none) (ha:PA X [a] ta) (hs:starEach [a] X.env=[(false,eval a X.env)]:=by rfl):PI X tg (.Call (.Name "range" p) [a] [] pos) (fY ta):=by
 intro pins s U H R I h
 refine Call_ (lE I hg hm boot_range (PyProof.Rows.callWith_type1 (aV (ha pos pins s U H _ I h) λus s1 ⟨vs,H1,I1,r1,q1⟩=>?_) hs rfl))
 obtain ⟨j,e,q1,q2,q⟩:=q1
 subst e
 cases r1 with
 | cons r rr =>
  cases rr
  obtain ⟨t,rfl⟩:=r
  exact call_range_1 (JD I1 (by omega) (by omega) q1 q2 (by simpa using q))
def JF (wi:TI) (g:TG) (tb:TS):TS:=λD U H=>wi U H λJ H1=>∃W:Nat->Nat->St->Hp->Prop,(∃m,W 0 m U H1)/\∀i m U H,W i m U H ->
 (J.stop i H/\D.nx U H)\/(J.go i H/\∃N:St->Hp->Prop,(∀ai H',N ai H'->∃m',m'<m/\W (i+1) m' ai H')/\∀x H',J.yld i H x H'->g x U H' λaG H2=>tb { D with nx:=N,ct:=N,bk:=D.nx } aG H2)
def gp (fp:Ae) (h:Heap):Ac:=fp.filterMap λb=>(h.get? b).map λo=>(b,o)
def oU {fp:Ae}{h:Heap}{b:Addr}{o:Obj}(hb:b∈fp) (e:h.get? b=some o):(b,o)∈gp fp h:=List.mem_filterMap.mpr ⟨b,hb,by rw [e];rfl⟩
def JG {fp:Ae}{h:Heap}{p:Addr×Obj}(hp:p∈gp fp h):p.1∈fp/\h.get? p.1=some p.2:=by
 obtain ⟨b,hb,e⟩:=List.mem_filterMap.mp hp
 cases q:h.get? b with
 | none=>rw [q] at e;cases e
 | some o =>
  rw [q] at e
  have e':(b,o)=p:=Option.some.inj e
  subst e'
  exact ⟨hb,q⟩
def Inv.pinned {pins:Ac}{U:St}{H:Hp}{s:Shared}{fp:Ae}(I:Inv X pins U H s) (hf:∀b∈fp,cU X pins H b) (ho:∀b∈fp,∃o,s.heap.get? b=some o/\∀v,o.data ≠ .cell v):Inv X (pins++gp fp s.heap) U H s :=
 I.pins_of λp hp=>(ju.mp hp).elim (λz=>I.pin p (yN _ z)) λz=>by
  obtain ⟨hb,e⟩:=JG z
  obtain ⟨f0,f1,f2,_⟩:=hf p.1 hb
  obtain ⟨o,e',d⟩:=ho p.1 hb
  rw [e] at e';cases e'
  exact ⟨e,f0,f1,f2,d⟩
def Inv.unpinned {pins pl:Ac}{U:St}{H:Hp}{s:Shared}(I:Inv X (pins++pl) U H s):Inv X pins U H s:=I.pins_of λp hp=>I.pin p (yN _ (j4 _ hp))
def Bz {iter:Expr}{body:List Stmt}{wi:TI}{g:TG}{tb:TS}{pos:Pos}(hp:PassesOwn (model X.prog X.w) X.A X.env X.xe) (hc:X.calm=true) (hi:PI X tg iter wi) (hg:PG X tg g) (hb:cy X body tb)
  (hs:∀x,foldedSetIterable iter X.env x=pure x:=by intro _;rfl):PS X (.For tg iter body [] pos) (JF wi g tb):=by
 intro pins s U H D I h
 refine wpAny_For (aV (hi pins s U H _ I h) λv s1 h1=>aV h1 λrB s2 h2=>?_) hs
 obtain ⟨it,fp,tn,J,H2,e,I2,T,aA,f2,W,⟨m0,w0⟩,turn⟩:=h2
 subst e
 have stat:∀{H':Hp},(∀b∈fp,H' b=none)->∀b∈fp,cU X pins H' b:=λhn b hb=>⟨hn b hb,(f2 b hb).2⟩
 refine codeAny_forLoop_any (λn s'=>∃i ai H',Inv X pins ai H' s'/\tn i s'.heap/\(∀b∈fp,H' b=none)/\W i n ai H') ?_ m0 ⟨0,U,H2,I2,aA,λb hb=>(f2 b hb).1,w0⟩
 rintro n s3 ⟨i,ay,H3,I3,a0,kg,w3⟩
 rcases turn i n ay H3 w3 with ⟨stop,qn⟩|⟨go,N,hN,step⟩
 ·refine wpAny_passesOwn hp (aV (T.done X rfl rfl rfl hc i pins s3 ay H3 X.xe I3 (stat kg) a0 stop) λr s4 ⟨hr,I4⟩=>?_)
  subst hr
  exact wpAny_execs_nil ⟨ay,H3,I4,qn⟩
 ·refine wpAny_passesOwn hp (aV (T.item X rfl rfl rfl hc i pins s3 ay H3 X.xe I3 (stat kg) a0 go) λr s4 ⟨u,hr,h4⟩=>?_)
  subst hr
  refine wpAny_passesOwn hp (aV h4 λ_ s5 ⟨x,H5,I5,r5,y5,dm,oV⟩=>?_)
  have oW:=I5.pinned (stat oV) (T.obj _ _ dm)
  refine wpAny_passesOwn hp (aV (hg _ s5 ay H5 x u _ oW r5 (step x H5 y5)) λ_ s6 ⟨aI,H6,I6,q6⟩=>?_)
  refine wpAny_passesOwn hp (aV (hb _ s6 aI H6 _ I6 q6) λf s7 q7=>?_)
  have again:∀{ax:St} {H7:Hp},Inv X (pins++gp fp s5.heap) ax H7 s7->N ax H7->∃m,m<n/\∃i ai H',Inv X pins ai H' s7/\tn i s7.heap/\(∀b∈fp,H' b=none)/\W i m ai H':=λ{ax H7} I7 n7=>by
   obtain ⟨m',hm,w7⟩:=hN ax H7 n7
   refine ⟨m',hm,i+1,ax,H7,I7.unpinned,T.keep _ _ _ dm λb hb o e=>(I7.pin (b,o) (yN _ (yN _ (oU hb e)))).1,λb hb=>?_,w7⟩
   obtain ⟨o,e,d⟩:=T.obj _ _ dm b hb
   exact (I7.pin (b,o) (yN _ (yN _ (oU hb e)))).2.1
  cases f with
  | next=>obtain ⟨ax,H7,I7,n7⟩:=q7;exact again I7 n7
  | cont=>obtain ⟨ax,H7,I7,n7⟩:=q7;exact again I7 n7
  | brk=>obtain ⟨ax,H7,I7,q7⟩:=q7;exact ⟨ax,H7,I7.unpinned,q7⟩
  | ret v=>obtain ⟨x7,ax,H7,I7,r7,q7⟩:=q7;exact ⟨x7,ax,H7,I7.unpinned,r7,q7⟩
end
theorem dr {K:PySem.W.Frag}{a:Addr}{xs:List V}{g:TG}{tb:TS}{D:Ends}{U:St}{H:Hp}(Pv:Nat->St->Hp->Prop) (h0:Pv 0 U H) (hl:∀i U H,i<=xs.length->Pv i U H->a9 K H a xs)
  (hs:∀i x U H,xs[i]?=some x->Pv i U H->g x U H λaG H2=>tb { D with nx:=Pv (i+1),ct:=Pv (i+1),bk:=D.nx } aG H2) (hd:∀U H,Pv xs.length U H->D.nx U H) :
  ∃W:Nat->Nat->St->Hp->Prop,(∃m,W 0 m U H)/\∀i m U H,W i m U H ->
   ((nq K a).stop i H/\D.nx U H)\/((nq K a).go i H/\∃N:St->Hp->Prop,(∀ai H',N ai H'->∃m',m'<m/\W (i+1) m' ai H')/\∀x H',(nq K a).yld i H x H'->g x U H' λaG H2=>tb { D with nx:=N,ct:=N,bk:=D.nx } aG H2):=by
 refine ⟨λi m U H=>m=xs.length-i/\i<=xs.length/\Pv i U H,⟨xs.length,by simp,jj _,h0⟩,?_⟩
 rintro i m U H ⟨rfl,hi,p⟩
 have q:=hl i U H hi p
 by_cases bw:i<xs.length
 ·refine .inr ⟨⟨xs,xs[i],q,by simp [bw]⟩,Pv (i+1),λai H' p'=>⟨xs.length-(i+1),by omega,rfl,bw,p'⟩,λx H' y=>?_⟩
  obtain ⟨e,y⟩:=y
  subst e
  exact hs i x U _ (y xs q) p
 ·have e:i=xs.length:=by omega
  subst e
  exact .inl ⟨⟨xs,q,ye _⟩,hd U H p⟩
abbrev R2:=V->V->Hp->VK->Prop
def ba (X:Cx) (f:Value->Value->Sem Value) (r:R2):Prop :=
 ∀(pins:Ac) (s:Shared) (U:St) (H:Hp) (x y:V) (v u:Value) (Q:VK),Inv X pins U H s->RelV x v->RelV y u->r x y H Q ->
  wpAny (model X.prog X.w) X.A (f v u) (EP X pins U Q) X.xe s
def oX (X:Cx) (f:Value->Sem Value) (r:V->Hp->VK->Prop):Prop :=
 ∀(pins:Ac) (s:Shared) (U:St) (H:Hp) (x:V) (v:Value) (Q:VK),Inv X pins U H s->RelV x v->r x H Q ->
  wpAny (model X.prog X.w) X.A (f v) (EP X pins U Q) X.xe s
def bY (X:Cx) (f:Value) (r:List V->Hp->VK->Prop):Prop :=
 ∀(pins:Ac) (s:Shared) (U:St) (H:Hp) (xs:List V) (us:Af) (Q:VK),Inv X pins U H s->Vals xs us->r xs H Q ->
  wpAny (model X.prog X.w) X.A (call f us) (EP X pins U Q) X.xe s
def oY (r:R2) (ta tb:TE):TE:=λU H Q=>ta U H λx H1=>tb U H1 λy H2=>r x y H2 Q
def JH (r:V->Hp->VK->Prop) (ta:TE):TE:=λU H Q=>ta U H λx H1=>r x H1 Q
def rI (C:Int->Int->Prop) (g:Int->Int->V):R2:=λx y H Q=>∃i j,x=.int i/\y=.int j/\C i j/\Q (g i j) H
def wP (g:Int->Int->V):R2:=λx y H Q=>∃i j,x=.int i/\y=.int j/\Q (g i j) H
def rU (g:Int->V):V->Hp->VK->Prop:=λx H Q=>∃i,x=.int i/\Q (g i) H
section
variable {X:Cx}{a b c:Expr}{ta tb tc:TE}{pos:Pos}
def oZ (ha:PE X a ta) (hb:PE X b tb) {pins:Ac}{s:Shared}{U:St}{H:Hp}{R:V->V->Hp->Prop}(I:Inv X pins U H s)
  (h:ta U H λx H1=>tb U H1 λy H2=>R x y H2) {Q:Aa} {f:Value->Value->Sem Value}
  (hf:∀v u s2 x y H2,Inv X pins U H2 s2->RelV x v->RelV y u->R x y H2->wpAny (model X.prog X.w) X.A (f v u) Q X.xe s2) :
  wpAny (model X.prog X.w) X.A (eval a X.env) (λv al=>wpAny (model X.prog X.w) X.A (eval b X.env) (λu af=>wpAny (model X.prog X.w) X.A (f v u) Q X.xe af) X.xe al) X.xe s:=by
 refine aV (ha pins s U H _ I h) λv s1 ⟨x,H1,I1,r1,q1⟩=>?_
 refine aV (hb pins s1 U H1 _ I1 q1) λu s2 ⟨y,H2,I2,r2,q2⟩=>?_
 exact hf v u s2 x y H2 I2 r1 r2 q2
def JI {op:Operator}{r:R2}(ho:ba X (binaryOp op) r) (ha:PE X a ta) (hb:PE X b tb):PE X (.BinOp a op b pos) (oY r ta tb):=by
 intro pins s U H Q I h
 exact wpAny_BinOp (oZ ha hb I h λv u s2 x y H2 I2 rx ry q=>ho pins s2 U H2 x y v u Q I2 rx ry q)
def JJ {op:UnaryOp}{r:V->Hp->VK->Prop}(ho:oX X (unaryOp op) r) (ha:PE X a ta):PE X (.UnaryOp op a pos) (JH r ta):=by
 intro pins s U H Q I h
 exact UnaryOp_ (aV (ha pins s U H _ I h) λv s1 ⟨x,H1,I1,r1,q1⟩=>ho pins s1 U H1 x v Q I1 r1 q1)
def opI {f:Value->Value->Sem Value}{C:Int->Int->Prop}{g:Int->Int->Int}
  (rule:∀(i j:Int) (t u:Tok) (s:Shared) (Q:Aa) (E:Aa),C i j->Q (.int (g i j) s.toks) { s with toks:=s.toks+1 }->wpAny (model X.prog X.w) X.A (f (.int i t) (.int j u)) Q E s) :
  ba X f (rI C λi j=>.int (g i j)):=by
 intro pins s U H x y v u Q I rx ry h
 obtain ⟨i,j,rfl,rfl,hc,q⟩:=h
 obtain ⟨t,rfl⟩:=rx
 obtain ⟨t',rfl⟩:=ry
 exact rule i j t t' s _ _ hc ⟨.int (g i j),H,I.tok _,⟨_,rfl⟩,q⟩
def rF {f:Value->Value->Sem Value}{g:Int->Int->Int}
  (rule:∀(i j:Int) (t u:Tok) (s:Shared) (Q:Aa) (E:Aa),Q (.int (g i j) s.toks) { s with toks:=s.toks+1 }->wpAny (model X.prog X.w) X.A (f (.int i t) (.int j u)) Q E s) :
  ba X f (wP λi j=>.int (g i j)):=by
 intro pins s U H x y v u Q I rx ry h
 obtain ⟨i,j,rfl,rfl,q⟩:=h
 obtain ⟨t,rfl⟩:=rx
 obtain ⟨t',rfl⟩:=ry
 exact rule i j t t' s _ _ ⟨.int (g i j),H,I.tok _,⟨_,rfl⟩,q⟩
def BA {f:Value->Value->Sem Value}{g:Int->Int->Bool}
  (rule:∀(i j:Int) (t u:Tok) (s:Shared) (Q:Aa) (E:Aa),Q (.bool (g i j)) s->wpAny (model X.prog X.w) X.A (f (.int i t) (.int j u)) Q E s) :
  ba X f (wP λi j=>.bl (g i j)):=by
 intro pins s U H x y v u Q I rx ry h
 obtain ⟨i,j,rfl,rfl,q⟩:=h
 obtain ⟨t,rfl⟩:=rx
 obtain ⟨t',rfl⟩:=ry
 exact rule i j t t' s _ _ ⟨.bl (g i j),H,I,rfl,q⟩
def uH (i j:Int):Prop:=0<=j/\j<=1000000/\i.natAbs<2 ^ 64
def mT (i j:Int):Prop:=(-(2 ^ 64)<i/\i<2 ^ 64)\/(-(2 ^ 64)<j/\j<2 ^ 64)
def mT.ok {i j:Int}(h:mT i j):IntMulOk i j:=by
 rcases h with ⟨h1,h2⟩|⟨h1,h2⟩
 ·exact .of_left (intBits_le_64 h1 h2)
 ·exact .of_right (intBits_le_64 h1 h2)
def JK (k:Nat):(0:Int)<=2 ^ k:=by
 rw [two_pow_cast]
 exact Int.natCast_nonneg _
def ig:ba X (binaryOp .Add) (wP λi j=>.int (i+j)):=rF λ_ _ _ _ _ _ _ q=>add_int q
def ik:ba X (binaryOp .Sub) (wP λi j=>.int (i-j)):=rF λ_ _ _ _ _ _ _ q=>sub_int q
def JL:ba X (binaryOp .Mult) (rI mT λi j=>.int (i*j)):=opI λ_ _ _ _ _ _ _ hc q=>mul_int q hc.ok
def JM:ba X (binaryOp .Mod) (rI (λ_ j=>j≠0) λi j=>.int (i.fmod j)):=opI λ_ _ _ _ _ _ _ hc q=>mod_int' hc q
def JN:ba X (binaryOp .Pow) (rI uH λi j=>.int (i ^ j.toNat)):=opI λ_ _ _ _ _ _ _ hc q=>pow_int_small hc.1 hc.2.1 hc.2.2 q
def JO:ba X (binaryOp .LShift) (rI uH λi j=>.int (i*2 ^ j.toNat)):=opI λ_ _ _ _ _ _ _ hc q=>lshift_int_small hc.1 hc.2.1 hc.2.2 q
def JP:ba X (binaryOp .RShift) (rI (λ_ j=>0<=j) λi j=>.int (i/2 ^ j.toNat)):=opI λi j _ _ _ _ _ hc q =>
 rshift_int hc (by rw [Int.fdiv_eq_ediv_of_nonneg i (JK _)];exact q)
def JQ:ba X (binaryOp .BitAnd) (wP λi j=>.int (Builtin.bitAnd i j)):=rF λ_ _ _ _ _ _ _ q=>and_int q
def JR:ba X (binaryOp .BitOr) (wP λi j=>.int (Builtin.bitOr i j)):=rF λ_ _ _ _ _ _ _ q=>or_int q
def JS {f:Value->Sem Value}{g:Int->Int}
  (rule:∀(i:Int) (t:Tok) (s:Shared) (Q:Aa) (E:Aa),Q (.int (g i) s.toks) { s with toks:=s.toks+1 }->wpAny (model X.prog X.w) X.A (f (.int i t)) Q E s) :
  oX X f (rU λi=>.int (g i)):=by
 intro pins s U H x v Q I rx h
 obtain ⟨i,rfl,q⟩:=h
 obtain ⟨t,rfl⟩:=rx
 exact rule i t s _ _ ⟨.int (g i),H,I.tok _,⟨_,rfl⟩,q⟩
def JT:oX X (unaryOp .USub) (rU λi=>.int (-i)):=JS λ_ _ _ _ _ q=>neg_int q
def BB {pins:Ac}{U:St}{H:Hp}{s:Shared}{Q:VK}{k k':Bool}(I:Inv X pins U H s) (q:Q (.bl k) H) (e:k=k'):EP X pins U Q (.bool k') s:=by
 subst e
 exact ⟨.bl k,H,I,rfl,q⟩
def JU:ba X (compareOp .Lt) (wP λi j=>.bl (decide (i<j))):=BA λ_ _ _ _ _ _ _ q=>lt_int q
def JV:ba X (compareOp .Gt) (wP λi j=>.bl (decide (j<i))):=BA λ_ _ _ _ _ _ _ q=>gt_int q
def JW:ba X (compareOp .In) (λx y H Q=>∃i j,x=.str i/\y=.str j/\Q (.bl (!(Builtin.Str.occurrences j i 0 j.length 1).isEmpty)) H):=by
 intro pins s U H x y v u Q I rx ry h
 obtain ⟨i,j,rfl,rfl,q⟩:=h
 obtain ⟨t,rfl⟩:=rx
 obtain ⟨t',rfl⟩:=ry
 exact in_str (BB I q rfl)
def JX:ba X (compareOp .IsNot) (λx y H Q=>y=.non/\Q (.bl (!decide (x=.non))) H):=by
 intro pins s U H x y v u Q I rx ry h
 obtain ⟨rfl,q⟩:=h
 cases ry
 refine isnot_none_gen (BB I q ?_)
 cases x<;>first
  | (cases rx;rfl)
  | (obtain ⟨t,rfl⟩:=rx;rfl)
def ba.or {f:Value->Value->Sem Value}{r r':R2}(h:ba X f r) (h':ba X f r'):ba X f (λx y H Q=>r x y H Q\/r' x y H Q):=by
 intro pins s U H x y v u Q I rx ry q
 rcases q with q|q
 ·exact h pins s U H x y v u Q I rx ry q
 ·exact h' pins s U H x y v u Q I rx ry q
def mU (b:Expr) {op:CmpOp}(h:op ≠ .In:=by decide) (h2:op ≠ .NotIn:=by decide):behindInMarks op b=false:=by
 have e1:(op==CmpOp.In)=false:=by cases op<;>first|rfl|exact absurd rfl h
 have e2:(op==CmpOp.NotIn)=false:=by cases op<;>first|rfl|exact absurd rfl h2
 cases b<;>simp [behindInMarks,e1,e2]
def JY {op:CmpOp}{r:R2}(ho:ba X (compareOp op) r) (ha:PE X a ta) (hb:PE X b tb) (hm:behindInMarks op b=false):PE X (.Compare a [op] [b] pos) (oY r ta tb):=by
 intro pins s U H Q I h
 exact wpAny_Compare1 (oZ ha hb I h λv u s2 x y H2 I2 rx ry q=>ho pins s2 U H2 x y v u Q I2 rx ry q) hm
def JZ (t:TE):TT:=λU H Q=>t U H λx H'=>∃k,x=.bl k/\Q k H'
def BC {op:CmpOp}{r:R2}(ho:ba X (compareOp op) r) (ha:PE X a ta) (hb:PE X b tb) (hm:behindInMarks op b=false):PT X (.Compare a [op] [b] pos) (JZ (oY r ta tb)):=by
 intro pins s U H Q I h
 refine wpAny_isTrue_Compare1 (aV (ha pins s U H _ I h) λv s1 ⟨x,H1,I1,r1,q1⟩=>aV (hb pins s1 U H1 _ I1 q1) λu s2 ⟨y,H2,I2,r2,q2⟩ =>
  aV (ho pins s2 U H2 x y v u _ I2 r1 r2 q2) λc s3 ⟨z,H3,I3,r3,k,e,q3⟩=>?_) hm
 subst e
 cases r3
 exact wy ⟨H3,I3,q3⟩
def BD (r r':R2) (ta tb tc:TE):TE:=λU H Q=>ta U H λx H1=>tb U H1 λy H2=>r x y H2 λz H3=>∃k,z=.bl k /\
 (if k=true then tc U H3 λw' H4=>r' y w' H4 Q else Q (.bl false) H3)
def J1 {op dX:CmpOp}{r r':R2}(ho:ba X (compareOp op) r) (ho':ba X (compareOp dX) r') (ha:PE X a ta) (hb:PE X b tb) (hc:PE X c tc)
  (hm:lastMarks [op,dX] [b,c]=false:=by with_unfolding_all rfl):PE X (.Compare a [op,dX] [b,c] pos) (BD r r' ta tb tc):=by
 intro pins s U H Q I h
 refine Compare_chain (aV (ha pins s U H _ I h) λv s1 ⟨x,H1,I1,r1,q1⟩=>chain_link (aV (hb pins s1 U H1 _ I1 q1) λu s2 ⟨y,H2,I2,r2,q2⟩ =>
  aV (ho pins s2 U H2 x y v u _ I2 r1 r2 q2) λd s3 ⟨z,H3,I3,r3,k,e,q3⟩=>?_)) hm
 subst e
 cases r3
 refine wy ?_
 cases k with
 | false=>exact ite_ff ⟨.bl false,H3,I3,rfl,q3⟩
 | true=>exact ite_tt (chain_last (aV (hc pins s3 U H3 _ I3 q3) λw' s4 ⟨z',H4,I4,r4,q4⟩=>ho' pins s4 U H4 y z' u w' Q I4 r2 r4 q4))
def rG:(sizeLine:Nat)<2 ^ 63:=by rw [sizeLine_eq];decide
def J2:ba X (binaryOp .Add) (λx y H Q=>∃i j,x=.str i/\y=.str j/\i.length+j.length<=sizeLine/\Q (.str (i++j)) H):=by
 intro pins s U H x y v u Q I rx ry h
 obtain ⟨i,j,rfl,rfl,hz,q⟩:=h
 obtain ⟨t,rfl⟩:=rx
 obtain ⟨t',rfl⟩:=ry
 exact add_str (λt' tk=>⟨.str (i++j),H,I.tok _,⟨_,rfl⟩,q⟩) hz
def wQ {x:V}{us:Af}(r:Vals [x] us):∃u,us=[u]/\RelV x u:=by
 cases r with
 | cons r1 r2=>cases r2;exact ⟨_,rfl,r1⟩
def BG {x y:V}{us:Af}(r:Vals [x,y] us):∃u w',us=[u,w']/\RelV x u/\RelV y w':=by
 cases r with
 | cons r1 r2 =>
  cases r2 with
  | cons r3 r4=>cases r4;exact ⟨_,_,rfl,r1,r3⟩
def J3:bY X (.type "int") (λxs H Q=>(∃i,xs=[.int i]/\Q (.int i) H)\/∃k,xs=[.bl k]/\Q (.int (if k then 1 else 0)) H):=by
 intro pins s U H xs us Q I r h
 rcases h with ⟨i,rfl,q⟩|⟨k,rfl,q⟩
 ·obtain ⟨u,rfl,t,rfl⟩:=wQ r
  exact call_int_int ⟨.int i,H,I,⟨_,rfl⟩,q⟩
 ·obtain ⟨u,rfl,r1⟩:=wQ r
  cases r1
  exact call_int_bool ⟨.int (if k then 1 else 0),H,I.tok _,⟨_,rfl⟩,q⟩
def J4:bY X (.type "str") (λxs H Q=>∃i,xs=[.int i]/\i.natAbs.log2<1920/\Q (.str (toString i)) H):=by
 intro pins s U H xs us Q I r h
 obtain ⟨i,rfl,hz,q⟩:=h
 obtain ⟨u,rfl,t,rfl⟩:=wQ r
 exact PySem.P.str_of_int hz ⟨.str _,H,I.tok _,⟨_,rfl⟩,q⟩
def BH (K:PySem.W.Frag) (x:V) (H:Hp) (n:Nat):Prop :=
 match x with
 | .str y=>y.length<=sizeLine/\n=y.length
 | .byt y=>y.size<=sizeLine/\n=y.size
 | .ref p=>(∃xs,a6 K H p xs/\n=xs.length)\/∃xs,a9 K H p xs/\n=xs.length
 | _=>False
theorem J5:bY X (.builtin "len") (λxs H Q=>∃x n,xs=[x]/\BH X.K x H n/\Q (.int n) H):=by
 intro pins s U H xs us Q I r h
 obtain ⟨x,n,rfl,e,q⟩:=h
 obtain ⟨u,rfl,rx⟩:=wQ r
 have hl:=rG
 have hs:sizeLine=16777216:=sizeLine_eq
 cases x with
 | str y =>
  obtain ⟨t,rfl⟩:=rx
  obtain ⟨hy,e'⟩:y.length<=sizeLine/\n=y.length:=e
  subst e'
  exact len_str (by omega) ⟨.int _,H,I.tok _,⟨_,rfl⟩,q⟩
 | byt y =>
  obtain ⟨t,rfl⟩:=rx
  obtain ⟨hy,e'⟩:y.size<=sizeLine/\n=y.size:=e
  subst e'
  exact PySem.W.len_bytes (by omega) ⟨.int _,H,I.tok _,⟨_,rfl⟩,q⟩
 | ref p =>
  cases rx
  have e':(∃xs,a6 X.K H p xs/\n=xs.length)\/∃xs,a9 X.K H p xs/\n=xs.length:=e
  rcases e' with ⟨xs,hx,e'⟩|⟨xs,hx,e'⟩
  ·subst e'
   obtain ⟨its,r',pl,hz⟩:=I.list hx
   have hlen:=r'.length
   exact Calls.call_len_list pl.isList (by simp only [yQ];omega) ⟨.int xs.length,H,I.tok _,⟨_,by simp only [yQ];rw [hlen]⟩,q⟩
  ·subst e'
   obtain ⟨its,r',pl,hz⟩:=I.tuple hx
   have hlen:=r'.length
   exact len_tuple pl (by simp only [yQ];omega) ⟨.int xs.length,H,I.tok _,⟨_,by simp only [yQ];rw [hlen]⟩,q⟩
 | _=>exact (show False from e).elim
end
structure gv (h:Heap) (x dx C:Addr) (mA:Ab):Prop where
 obj:h.get? x=some (PySem.W.instObj C dx)
 ns:h.Ns1 dx mA
 ne:dx≠x
def BI {h:Heap}{dx:Addr}{mA:Ab}(n:h.Ns1 dx mA):∃od,h.get? dx=some od/\∀name,PySem.W.lookIn name od=some (mA name):=by
 obtain ⟨o,es,ep,ho,hd,hk,_,hm⟩:=n
 refine ⟨o,ho,λname=>?_⟩
 have e:=hm name
 unfold nsFind findBy at e
 rw [<-Array.find?_toList] at e
 unfold PySem.W.lookIn
 rw [hd]
 dsimp only
 split
 ·rename_i y q
  rw [q] at e
  exact congrArg some e
 ·rename_i q
  rw [q] at e
  have a:es.toList.any (·.refKey)=false:=by
   rw [List.any_eq_false]
   intro y hy
   obtain ⟨z,t,mV⟩:=hk y (Array.mem_toList_iff.mp hy)
   simp [DictEntry.refKey,mV]
  have a':¬es.toList.any (·.refKey)=true:=by rw [a];exact Bool.false_ne_true
  rw [zH a']
  exact congrArg some e
def gv.look {h:Heap}{x dx C:Addr}{mA:Ab}(I:gv h x dx C mA):∃od,PySem.W.InstAt h x (PySem.W.instObj C dx) C (some od)/\∀name,PySem.W.lookIn name od=some (mA name) :=
 let ⟨od,ho,hl⟩:=BI I.ns
 ⟨od,⟨I.obj,rfl,rfl,ho⟩,hl⟩
section
variable {prog:Program}{w:World}{A:Around}{E:Aa}{s:Shared}{K:PySem.W.Frag}{x dx C f:Addr}{mA:Ab}{name:Str}{v:Value}
def J6 {expr:Bool}{Q:Aa}(X:K.In s.heap) (I:gv s.heap x dx C mA) (hg:PySem.W.plainGet K C name=true) (hh:PySem.W.hasDictIn K C=true)
  (ha:PySem.W.findIn K (.ref C) name=some none) (hv:mA name=some v) (rH:PySem.W.handedIn v=true) (h:Q v { s with toks:=s.toks+1 }) :
  wpAny (model prog w) A (getAttr (.ref x) name expr) Q E s:=by
 obtain ⟨od,J,hl⟩:=I.look
 exact PySem.W.get_value X J (PySem.W.plainGet_of hg).1 (PySem.W.findObj_own hh ha rfl (by rw [hl,hv])) rH h
def J7 {pl:Sem Bool}{Q:Value×List Value->Shared->Prop}(X:K.In s.heap) (I:gv s.heap x dx C mA) (hg:PySem.W.plainGet K C name=true)
  (hf:PySem.W.findIn K (.ref C) name=some (some (.ref f))) (ht:PySem.W.isFn K (.ref f)=true) (hv:mA name=none) (h:Q (.ref f,[.ref x]) s) :
  wpAny (model prog w) A (getMethod (.ref x) name pl) Q E s:=by
 obtain ⟨od,J,hl⟩:=I.look
 exact PySem.W.method_fn X J (PySem.W.plainGet_of hg).1 (PySem.W.plainGet_of hg).2 hf (beq_iff_eq.mp ht) (by show (PySem.W.lookIn name od).map (·.isSome)=some false;rw [hl,hv];rfl) h
theorem J8 {ns:Ad}{Q:Unit->Shared->Prop}(X:K.In s.heap) (I:gv s.heap x dx C mA)
  (hs:PySem.W.findIn K (.ref C) "__setattr__" = some (some (.builtin "object.__setattr__"))) (hp:PySem.W.plainOver K C=true) (ht:PySem.W.takerIn K C name=some none) (hh:PySem.W.hasDictIn K C=true)
  (hw:PySem.Within mA ns) (hsz:ns.length<=sizeLine)
  (h:∀h',gv h' x dx C (λy=>if y=name then some v else mA y)->Heap.SameBut dx s.heap h'->Q () { s with heap:=h',toks:=s.toks+2 }) :
  wpAny (model prog w) A (setAttr (.ref x) name v) Q E s:=by
 obtain ⟨od,J,hl⟩:=I.look
 refine PySem.W.set_plain X J hs (PySem.W.osa_open (s:={ s with toks:=s.toks+1 }) (r:=none) X J hp ht λb=>?_)
 obtain ⟨cd,hc,gr⟩:=PySem.W.any_some hh
 have hx:s.heap.get? x=some ⟨.ref C,some dx,.plain,#[]⟩:=I.obj
 refine zt (zM (zt (zt (wpAny_loadPart hx (zt (PySem.W.Looks.here (s:={ s with toks:=s.toks+1 }) (PySem.W.looks_clsIn X hc) ?_))))))
 rw [gr]
 refine zM (a:=some dx) (zt (zM (zt ?_)))
 refine wpAny_nsSet1 (s:={ s with toks:=s.toks+1 }) I.ns λh' gU lH=>?_
 obtain ⟨oD,XS,XT,J9,J_,Ka⟩:=gU.count (PySem.Within.cons name v hw)
 refine zt (wpAny_lookBehind J9 (by rw [J_];exact pastItsLine_dict (y4 Ka (by rw [j5];omega))) ?_)
 exact zM (h _ ⟨(lH.2 _ (yC I.ne)).trans I.obj,gU,I.ne⟩ lH)
def Kb {R:Result->Shared->Prop}{vs:Af}{kw:List (Str×Value)}(X:K.In s.heap) (hm:PySem.W.makesIn K C=true)
  (hi:PySem.W.findIn K (.ref C) "__init__" = some (some (.ref f))) (hf:PySem.W.typeIn K (.ref f)=some (.type "function"))
  (h:codeAny (model prog w) (A.under (.builtin "type.__call__" ⟨.ref C::vs,kw⟩)) (.call (.ref f) ⟨.ref (s.heap.objs.size+1)::vs,kw⟩) (PySem.W.InitBack (s.heap.objs.size+1) R)
   { s with heap:=(s.heap.push PySem.W.emptyDict).push (PySem.W.instObj C s.heap.objs.size) }) :
  codeAny (model prog w) A (.call (.ref C) ⟨vs,kw⟩) R s:=by
 obtain ⟨hh,g,d,t,os⟩:=s
 exact PySem.W.make_core (PySem.W.makes_of X hm) (PySem.W.looks_findIn X hi) (λself=>PySem.W.bind_fn X self hf) (.inl rfl) h
end
def cz (f:Str) (v:V):List (Str×V)->List (Str×V)
 | []=>[(f,v)]
 | (g,x)::r=>if g=f then (g,v)::r else (g,x)::cz f v r
theorem BJ (f g:Str) (v:V):∀fs:List (Str×V),(cz f v fs).lookup g=if g=f then some v else fs.lookup g
 | []=>by
  show List.lookup g [(f,v)]=_
  by_cases h:g=f
  ·have hb:(g==f)=true:=beq_iff_eq.mpr h
   simp only [List.lookup,hb,zx h]
  ·have hb:(g==f)=false:=beq_eq_false_iff_ne.mpr h
   simp only [List.lookup,hb,zH h]
 | (k,x)::r=>by
  have ih:=BJ f g v r
  rw [show cz f v ((k,x)::r)=(if k=f then (k,v)::r else (k,x)::cz f v r) from rfl]
  by_cases hk:k=f
  ·rw [zx hk]
   by_cases h:g=k
   ·have hb:(g==k)=true:=beq_iff_eq.mpr h
    simp only [List.lookup,hb,zx (h.trans hk)]
   ·have hb:(g==k)=false:=beq_eq_false_iff_ne.mpr h
    simp only [List.lookup,hb,zH (λe:g=f=>h (e.trans hk.symm))]
  ·rw [zH hk]
   by_cases h:g=k
   ·have hb:(g==k)=true:=beq_iff_eq.mpr h
    simp only [List.lookup,hb,zH (λe:g=f=>hk (h.symm.trans e))]
   ·have hb:(g==k)=false:=beq_eq_false_iff_ne.mpr h
    simp only [List.lookup,hb]
    exact ih
theorem u9 (f:Str) (v:V):∀fs:List (Str×V),f∈(cz f v fs).map (·.1)/\∀g,g∈fs.map (·.1)->g∈(cz f v fs).map (·.1)
 | []=>⟨by simp [cz],λg h=>by simp at h⟩
 | (k,x)::r=>by
  obtain ⟨i1,i2⟩:=u9 f v r
  rw [show cz f v ((k,x)::r)=(if k=f then (k,v)::r else (k,x)::cz f v r) from rfl]
  by_cases hk:k=f
  ·rw [zx hk]
   subst hk
   exact ⟨by simp,λg h=>by simpa using h⟩
  ·rw [zH hk]
   refine ⟨?_,λg h=>?_⟩
   ·rw [yJ]
    exact jq _ i1
   ·rw [yJ] at h ⊢
    rcases yF.mp h with e|e
    ·exact yF.mpr (.inl e)
    ·exact jq _ (i2 g e)
theorem BK (f:Str) (v:V):∀fs:List (Str×V),(cz f v fs).length<=fs.length+1
 | []=>by simp [cz]
 | (k,x)::r=>by
  have ih:=BK f v r
  rw [show cz f v ((k,x)::r)=(if k=f then (k,v)::r else (k,x)::cz f v r) from rfl]
  by_cases hk:k=f
  ·rw [zx hk,j5,j5];omega
  ·rw [zH hk,j5,j5];omega
def cE.some_of {v:V}{o:Option Value}(r:cE (some v) o):∃u,o=some u/\RelV v u:=by
 cases o with
 | none=>exact (show False from r).elim
 | some u=>exact ⟨u,rfl,r⟩
def cE.none_of {o:Option Value}(r:cE none o):o=none:=by
 cases o with
 | none=>rfl
 | some u=>exact (show False from r).elim
def BL {v:V}{u:Value}(r:RelV v u):PySem.W.handedIn u=true:=by
 cases v with
 | non=>cases (show u=Value.none from r);rfl
 | bl b=>cases (show u=Value.bool b from r);rfl
 | int i=>obtain ⟨t,e⟩:=(show ∃t,u=Value.int i t from r);cases e;rfl
 | str x=>obtain ⟨t,e⟩:=(show ∃t,u=Value.str x t from r);cases e;rfl
 | byt b=>obtain ⟨t,e⟩:=(show ∃t,u=Value.bytes b t from r);cases e;rfl
 | flt b=>obtain ⟨t,e⟩:=(show ∃t,u=Value.float b t from r);cases e;rfl
 | ref a=>cases (show u=Value.ref a from r);rfl
 | ty n=>cases (show u=Value.type n from r);rfl
section
variable {P:Program}{w:World}{H H':Hp}{h h':Heap}{a C dx:Addr}{fs Ip:List (Str×V)}
def rJ (hok:bZ P w H h) (e:H a=some (.ins C dx fs)):∃mA,gv h a dx C mA/\(∀f,cE (fs.lookup f) (mA f))/\PySem.Within mA (fs.map (·.1))/\fs.length<=1000/\H dx=some (.own a):=by
 obtain ⟨d,z,ne,ob,mA,n,r,q⟩:=(show aZ P w H h a (.ins C dx fs) from hok a _ e)
 exact ⟨mA,⟨ob,n,ne⟩,r,q,z,d⟩
end
structure fw (K:PySem.W.Frag) (C:Addr):Prop where
 pg:PySem.W.plainGet K C Str.empty=true
 hd:PySem.W.hasDictIn K C=true
 po:PySem.W.plainOver K C=true
 sa:PySem.W.findIn K (.ref C) "__setattr__" = some (some (.builtin "object.__setattr__"))
def fw.get {K:PySem.W.Frag}{C:Addr}(c:fw K C) (f:Str):PySem.W.plainGet K C f=true:=c.pg
def dh (K:PySem.W.Frag) (C:Addr) (f:Str):Prop:=PySem.W.findIn K (.ref C) f=some none
def dh.taker {K:PySem.W.Frag}{C:Addr}{f:Str}(n:dh K C f):PySem.W.takerIn K C f=some none:=by
 unfold PySem.W.takerIn
 rw [show PySem.W.findIn K (.ref C) f=some none from n]
 rfl
structure XU (K:PySem.W.Frag) (C:Addr) (f:Str) (v:V) (u:Value):Prop where
 at_:PySem.W.findIn K (.ref C) f=some (some u)
 rel:RelV v u
 get:PySem.W.specialIn K u "__get__" = some none
 cp:PySem.W.copiedNames.contains f=false
structure Meth (K:PySem.W.Frag) (C:Addr) (m:Str) (f:Addr):Prop where
 at_:PySem.W.findIn K (.ref C) m=some (some (.ref f))
 fn:PySem.W.isFn K (.ref f)=true
 kp:PySem.W.keepIn K (.ref f)=true
section
variable {X:Cx}{pins:Ac}{U:St}{H:Hp}{s:Shared}{a C dx:Addr}{fs:List (Str×V)}{f:Str}{v:V}{A:Around}{E:Aa}
def Kc {b:Bool}{Q:Aa}(I:Inv X pins U H s) (e:H a=some (.ins C dx fs)) (c:fw X.K C) (n:dh X.K C f) (l:fs.lookup f=some v)
  (h:∀u s',Inv X pins U H s'->RelV v u->Q u s'):wpAny (model X.prog X.w) A (getAttr (.ref a) f b) Q E s:=by
 obtain ⟨mA,O,r,_,_,_⟩:=rJ I.hok e
 obtain ⟨u,hu,ru⟩:=cE.some_of (v:=v) (o:=mA f) (by rw [<-l];exact r f)
 exact J6 I.kIn O (c.get f) c.hd n hu (BL ru) (h u _ (I.tok _) ru)
def u_ {m:Str}{g:Addr}{pl:Sem Bool}{Q:Value×List Value->Shared->Prop}(I:Inv X pins U H s) (e:H a=some (.ins C dx fs)) (c:fw X.K C) (k:Meth X.K C m g) (l:fs.lookup m=none)
  (h:Q (.ref g,[.ref a]) s):wpAny (model X.prog X.w) A (getMethod (.ref a) m pl) Q E s:=by
 obtain ⟨mA,O,r,_,_,_⟩:=rJ I.hok e
 have hn:mA m=none:=cE.none_of (by rw [<-l];exact r m)
 exact J7 I.kIn O (c.get m) k.at_ k.fn hn h
theorem Kd {y:V}{u:Value}{Q:Unit->Shared->Prop}(I:Inv X pins U H s) (e:H a=some (.ins C dx fs)) (c:fw X.K C) (n:dh X.K C f) (hl:fs.length<1000) (ry:RelV y u)
  (h:∀s',Inv X pins U (upd H a (.ins C dx (cz f y fs))) s'->Q () s'):wpAny (model X.prog X.w) A (setAttr (.ref a) f u) Q E s:=by
 obtain ⟨mA,O,r,wi,_,ho⟩:=rJ I.hok e
 have hz:(fs.map (·.1)).length<=sizeLine:=by rw [jk,sizeLine_eq];omega
 refine J8 I.kIn O c.sa c.po n.taker c.hd wi hz λh' O' sb=>h _ ?_
 have hd:∃o,h'.get? dx=some o:=let ⟨o,_,_,e',_⟩:=O'.ns;⟨o,e'⟩
 refine I.write (x:=a) (e:=dx) (by rw [e];exact True.intro) (.inr ho) (λb q hb z=>(sb.2 b hb).trans z) hd ?_
 refine ⟨by rw [yc O.ne];exact ho,?_,O.ne,O'.obj,_,O'.ns,λg=>?_,λg hg=>?_⟩
 ·have:=BK f y fs;omega
 ·show cE ((cz f y fs).lookup g) (if g=f then some u else mA g)
  rw [BJ]
  by_cases q:g=f
  ·rw [zx q,zx q];exact ry
  ·rw [zH q,zH q];exact r g
 ·by_cases q:g=f
  ·rw [q];exact (u9 f y fs).1
  ·refine (u9 f y fs).2 g (wi g λz=>hg ?_)
   show (if g=f then some u else mA g)=none
   rw [zH q];exact z
def Inv.made (I:Inv X pins U H s):Inv X pins U (upd (upd H s.heap.objs.size (.own (s.heap.objs.size+1))) (s.heap.objs.size+1) (.ins C s.heap.objs.size []))
  { s with heap:=(s.heap.push PySem.W.emptyDict).push (PySem.W.instObj C s.heap.objs.size) }:=by
 have e1:(s.heap.push PySem.W.emptyDict).get? s.heap.objs.size=some PySem.W.emptyDict:=yY s.heap rfl
 have e2:((s.heap.push PySem.W.emptyDict).push (PySem.W.instObj C s.heap.objs.size)).get? (s.heap.objs.size+1)=some (PySem.W.instObj C s.heap.objs.size):=by
  have:=yY (s.heap.push PySem.W.emptyDict) (o:=PySem.W.instObj C s.heap.objs.size) rfl
  rwa [Heap.size_push] at this
 have e3:(s.heap.push PySem.W.emptyDict).Ns s.heap.objs.size (λ_=>none):=⟨PySem.W.emptyDict,#[],_,e1,rfl,(λe he=>absurd he (by simp)),λ_=>rfl⟩
 have I1:=I.laid (a:=s.heap.objs.size) (o:=.own (s.heap.objs.size+1)) (h':=s.heap.push PySem.W.emptyDict) (t':=s.toks) (λb u q=>yk _ q) (ye _) ⟨_,e1⟩
 refine I1.laid (a:=s.heap.objs.size+1) (o:=.ins C s.heap.objs.size []) (t':=s.toks) (λb u q=>yk _ q) (Nat.le_of_eq (Heap.size_push _ _)) ?_
 have ne:s.heap.objs.size≠s.heap.objs.size+1:=yK (jK _)
 refine ⟨by rw [yc ne,y0],jj _,ne,e2,λ_=>none,(Heap.Ns1.of_empty e3).at λo q=>yk _ q,λ_=>True.intro,λy hy=>absurd rfl hy⟩
def Ke {prog:Program}{w:World}{env:Env}{e:Expr}{f:Str}{pos:Pos}{s:Shared}{Q:Aa}(hb:attributeBase e f env (eval e env)=eval e env)
  (h:wpAny (model prog w) A (eval e env) (λo al=>wpAny (model prog w) A (getAttr o f true) Q E al) E s):wpAny (model prog w) A (eval (.Attribute e f pos) env) Q E s :=
 Attribute_any_ h (by rw [arm_eval_Attribute,hb])
end
def sFld (K:PySem.W.Frag) (ta tv:TE) (f:Str):TS:=λD U H=>tv U H λy H1=>ta U H1 λx H2=>∃a C dx fs,x=.ref a/\H2 a=some (.ins C dx fs)/\fw K C/\dh K C f/\fs.length<1000 /\
 D.nx U (upd H2 a (.ins C dx (cz f y fs)))
section
variable {X:Cx}{o e value:Expr}{f:Str}{pos pos' BM:Pos}{ta tv:TE}
def Kf (ha:PE X o ta) (hv:PE X value tv) (hs:swapsWith value (some (.Attribute o f pos')) pos.line X.env=pure false):PS X (.Assign [.Attribute o f pos'] value pos) (sFld X.K ta tv f):=by
 intro pins s U H D I h
 refine plainObj_wpAny_Assign_Attribute (aV (hv pins s U H _ I h) λu s1 ⟨y,H1,I1,ry,q⟩=>aV (ha pins s1 U H1 _ I1 q) λov s2 ⟨x,H2,I2,rx,a,C,dx,fs,ex,ea,c,n,l,q2⟩=>?_) hs
 subst ex
 obtain rfl:ov=Value.ref a:=rx
 exact Kd I2 ea c n l ry λs3 I3=>⟨U,_,I3,q2⟩
end
section
variable {X:Cx}{pins:Ac}{U:St}{H:Hp}{s:Shared}{A:Around}{E:Aa}{Q:Aa}{c:Value}{b:Bool}
inductive dv (K:PySem.W.Frag) (H:Hp):V->Value->Prop where
 | non:dv K H .non (.type "NoneType")
 | bl (x:Bool):dv K H (.bl x) (.type "bool")
 | int (i:Int):dv K H (.int i) (.type "int")
 | str (x:Str):dv K H (.str x) (.type "str")
 | flt (x:UInt64):dv K H (.flt x) (.type "float")
 | lst {a:Addr} {xs:List V} (e:H a=some (.lst xs)):dv K H (.ref a) (.type "list")
 | frz {a:Addr} {o:Obj} {xs:List V} (e:H a=some (.frz o (.lst xs))):dv K H (.ref a) (.type "list")
 | tup {a:Addr} {xs:List V} (e:H a=some (.tup xs)):dv K H (.ref a) (.type "tuple")
 | dK {a:Addr} {kvs:List (Key×V)} (e:H a=some (.dK kvs)):dv K H (.ref a) (.type "dict")
 | dT {a:Addr} {kvs:List (List Key×V)} (e:H a=some (.dT kvs)):dv K H (.ref a) (.type "dict")
 | ins {a C dx:Addr} {fs:List (Str×V)} (e:H a=some (.ins C dx fs)) (cl:fw K C) (ha:PySem.W.findIn K (.ref C) "__class__" = some (some (.builtin "object.__class__")))
   (hn:PySem.W.specialIn K (.builtin "object.__class__") "__get__" = some (some (.builtin "getset_descriptor.__get__"))) (BN:PySem.W.takesIn K (.builtin "object.__class__")=some true)
   (hm:PySem.W.mroIn K C (.type "object")=some true):dv K H (.ref a) (.ref C)
def Kg {x:V}{u t:Value}(I:Inv X pins U H s) (rx:RelV x u) (ty:dv X.K H x t) (e:PySem.W.kitOne X.K t c=some b) (h:∀tk,Q (.bool b) { s with toks:=tk }) :
  wpAny (model X.prog X.w) A (call (.builtin "isinstance") [u,c]) Q E s:=by
 cases ty with
 | non=>cases (show u=Value.none from rx);exact PySem.W.kia_one PySem.W.kitx_none I.kIn True.intro e (λz=>nomatch z) h
 | bl y=>cases (show u=Value.bool y from rx);exact PySem.W.kia_one PySem.W.kitx_bool I.kIn True.intro e (λz=>nomatch z) h
 | int i=>obtain ⟨t,q⟩:=(show ∃t,u=Value.int i t from rx);cases q;exact PySem.W.kia_one PySem.W.kitx_int I.kIn True.intro e (λz=>nomatch z) h
 | str y=>obtain ⟨t,q⟩:=(show ∃t,u=Value.str y t from rx);cases q;exact PySem.W.kia_one PySem.W.kitx_str I.kIn True.intro e (λz=>nomatch z) h
 | flt y=>obtain ⟨t,q⟩:=(show ∃t,u=Value.float y t from rx);cases q;exact PySem.W.kia_one PySem.W.kitx_float I.kIn True.intro e (λz=>nomatch z) h
 | @lst a xs ea =>
  cases (show u=Value.ref a from rx)
  obtain ⟨_,_,n,_,h1⟩:=(show aZ X.prog X.w H s.heap a (.lst xs) from I.hok a _ ea)
  exact PySem.W.kia_one PySem.W.kitx_list I.kIn ⟨_,h1,rfl⟩ e (λz=>nomatch z) h
 | @frz a ob xs ea =>
  cases (show u=Value.ref a from rx)
  obtain ⟨_,_,_,n,_,h1⟩:=(show aZ X.prog X.w H s.heap a (.frz ob (.lst xs)) from I.hok a _ ea)
  exact PySem.W.kia_one PySem.W.kitx_list I.kIn ⟨_,h1,rfl⟩ e (λz=>nomatch z) h
 | @tup a xs ea =>
  cases (show u=Value.ref a from rx)
  obtain ⟨_,_,_,p⟩:=(show aZ X.prog X.w H s.heap a (.tup xs) from I.hok a _ ea)
  obtain ⟨o,h1,h2,_⟩:=p
  exact PySem.W.kia_one PySem.W.kitx_tuple I.kIn ⟨o,h1,h2⟩ e (λz=>nomatch z) h
 | @dK a kvs ea =>
  cases (show u=Value.ref a from rx)
  obtain ⟨_,_,vs,_,p⟩:=(show aZ X.prog X.w H s.heap a (.dK kvs) from I.hok a _ ea)
  obtain ⟨o,es,ep,h1,h2,_⟩:=p
  exact PySem.W.kia_one PySem.W.kitx_dict I.kIn ⟨o,h1,h2.1⟩ e (λz=>nomatch z) h
 | @dT a kvs ea =>
  cases (show u=Value.ref a from rx)
  obtain ⟨_,_,xs,_,o,es,ep,h1,h2,_⟩:=(show aZ X.prog X.w H s.heap a (.dT kvs) from I.hok a _ ea)
  exact PySem.W.kia_one PySem.W.kitx_dict I.kIn ⟨o,h1,h2.1⟩ e (λz=>nomatch z) h
 | @ins a C dx fs ea cl ha hn BN hm =>
  cases (show u=Value.ref a from rx)
  obtain ⟨mA,O,_⟩:=rJ I.hok ea
  obtain ⟨od,J,_⟩:=O.look
  exact PySem.W.kia_one (PySem.W.kitx_own (cl.get _) cl.hd ha hn BN hm) I.kIn J e (λz=>nomatch z) h
end
structure aY (k:Nat) (A:Around):Prop where
 hd:A.handled=none
 dp:A.depth+3*k+5<recursionLimit
 un:A.units+16*k+200<cLine
theorem aY.mono {j k:Nat}{A:Around}(r:aY k A) (h:j<=k):aY j A:=⟨r.hd,by have:=r.dp;omega,by have:=r.un;omega⟩
theorem aY.deeper {k:Nat}{A:Around}(r:aY (k+1) A) (env:Env):aY k (A.deeper env) :=
 ⟨r.hd,by have:=r.dp;show A.depth+1+3*k+5<_;omega,by have:=r.un;show A.units+3+16*k+200<_;omega⟩
theorem aY.in1 {k:Nat}{A:Around}(r:aY (k+1) A):aY k A.in1 :=
 ⟨r.hd,by have:=r.dp;show A.depth+3*k+5<_;omega,by have:=r.un;show A.units+1+16*k+200<_;omega⟩
def Kh {A:Around} {C:Addr} {us:Af} {kw:List (Str×Value)}:(A.under (.builtin "type.__call__" ⟨.ref C::us,kw⟩)).depth=A.depth+1:=by
 first|rfl|simp [Around.under,Code.weight,Code.isCreation,Code.isGuard,Code.isCaller,Code.frames,Code.isFrame,guardIds]
def Ki {A:Around} {C:Addr} {us:Af} {kw:List (Str×Value)}:(A.under (.builtin "type.__call__" ⟨.ref C::us,kw⟩)).units=A.units+1:=by
 first|rfl|simp [Around.under,Code.cUnits,Code.frames,Code.isFrame]
theorem aY.make {k:Nat} {A:Around} (r:aY (k+1) A) (C:Addr) (us:Af) (kw:List (Str×Value)):aY k (A.under (.builtin "type.__call__" ⟨.ref C::us,kw⟩)) :=
 ⟨r.hd,by have:=r.dp;rw [Kh];omega,by have:=r.un;rw [Ki];omega⟩
theorem aY.depth {k:Nat}{A:Around}(r:aY k A):A.depth<recursionLimit:=by have:=r.dp;omega
theorem aY.units {k:Nat}{A:Around}(r:aY k A):A.units+64<cLine:=by have:=r.un;omega
def BO:TA:=λ_ H Q=>Q [] H
def Kj (ta:TE) (tr:TA):TA:=λU H Q=>ta U H λx H1=>tr U H1 λxs H2=>Q (x::xs) H2
section
variable {X:Cx}{e:Expr}{es:List Expr}{te:TE}{t:TA}{pos:Pos}
def rK:PA X [] BO:=λ_ _ _ _ H Q I h=>Calls.spliced_nil ⟨[],H,I,.nil,h⟩
def rL (ha:PE X e te) (hr:PA X es t) (hs:starEach (e::es) X.env=(false,eval e X.env)::starEach es X.env:=by rfl):PA X (e::es) (Kj te t):=by
 intro pos pins s U H Q I h
 rw [hs]
 show wpAny _ _ (spliced ((false,eval e X.env)::backTo pos (starEach es X.env))) _ _ s
 refine Calls.spliced_cons (aV (ha pins s U H _ I h) λu s1 ⟨x,H1,I1,r1,q1⟩=>?_)
 exact aV (hr pos pins s1 U H1 _ I1 q1) λus s2 ⟨xs,H2,I2,r2,q2⟩=>⟨x::xs,H2,I2,.cons r1 r2,q2⟩
def Kk (t:TA):TE:=λU H Q=>t U H λxs H1=>xs.length<=sizeLine/\∀p,H1 p=none->Q (.ref p) (upd H1 p (.tup xs))
def Kl (t:TA):TE:=λU H Q=>t U H λxs H1=>xs.length<=sizeLine/\∀p,H1 p=none->Q (.ref p) (upd H1 p (.lst xs))
def Km {x1}(h:PA X es t):PE X (.Tuple es x1 pos) (Kk t):=by
 intro pins s U H Q I hq
 refine wpAny_Tuple_spliced (aV (h pos pins s U H _ I hq) λus s1 ⟨xs,H1,I1,r,z,q⟩=>⟨by rw [<-r.length];exact z,?_⟩)
 have hf:H1 s1.heap.objs.size=none:=I1.hok.fresh (ye _)
 refine ⟨.ref s1.heap.objs.size,upd H1 s1.heap.objs.size (.tup xs),I1.laid (t':=s1.toks) (λb u e=>yk _ e) (ye _) ?_,rfl,q _ hf⟩
 exact ⟨z,us,r,⟨_,yY _ rfl,rfl,_,rfl⟩⟩
def Ko (h:PA X es t):PE X (.List es pos) (Kl t):=by
 intro pins s U H Q I hq
 refine wpAny_List_spliced (aV (h pos pins s U H _ I hq) λus s1 ⟨xs,H1,I1,r,z,q⟩=>⟨by rw [<-r.length];exact z,?_⟩)
 have hf:H1 s1.heap.objs.size=none:=I1.hok.fresh (ye _)
 refine ⟨.ref s1.heap.objs.size,upd H1 s1.heap.objs.size (.lst xs),I1.laid (t':=s1.toks) (λb u e=>yk _ e) (ye _) ?_,rfl,q _ hf⟩
 exact ⟨z,us,0,r,yY _ rfl⟩
end
abbrev Sp:=List V->Hp->VK->XK->Prop
abbrev dY:=List Env->Hp->Shared->XK->Aa
structure fg (P:Program) (w:World) (K:PySem.W.Frag) (mg:Ab) (base:Heap) (A:Around) (outer:List Env) (s:Shared) (H:Hp):Prop where
 frames:A.frames=some outer
 mod:Mod K mg base
 bs:∀b o,base.get? b=some o->s.heap.get? b=some o/\H b=none
 bsz:base.objs.size<=s.heap.objs.size
 funs:s.heap.FunFrames base outer
 frf:∀b∈cT outer,H b=none
 hok:bZ P w H s.heap
 bare:AllBare s.gens
def CE (outer:List Env) (P:Program) (w:World) (H:Hp) (s:Shared) (Q:VK) (u:Value) (s':Shared):Prop :=
 ∃v H',s'.os=s.os/\AllBare s'.gens/\Un (cT outer) [] H H' s.heap s'.heap/\bZ P w H' s'.heap/\RelV v u/\Q v H'
def CR (CX:dY) (outer:List Env) (P:Program) (w:World) (H:Hp) (s:Shared) (Q:VK) (E:XK) (r:Result) (s':Shared):Prop :=
 match r with
 | .ok (.ret u)=>CE outer P w H s Q u s'
 | .ok _=>False
 | .error e=>CX outer H s E e s'
structure br (P:Program) (w:World) (K:PySem.W.Frag) (mg:Ab) (base:Heap) (CX:dY) (k:Nat) (f:Addr) (fd:FuncData) (ps:Ad) (sp:Sp):Prop where
 len:∀vs H Q E,sp vs H Q E->vs.length=ps.length
 run:∀(A:Around) (outer:List Env) (s:Shared) (H:Hp) (args:Args) (us:Af) (vs:List V) (Q:VK) (E:XK),aY k A->fg P w K mg base A outer s H->BindsTo s fd args (ps.zip us)->Vals vs us->sp vs H Q E ->
  codeAny (model P w) A (.call (.ref f) args) (CR CX outer P w H s Q E) s
def br.mono {P:Program}{w:World}{K:PySem.W.Frag}{mg:Ab}{base:Heap}{CX:dY}{j k:Nat}{f:Addr}{fd:FuncData}{ps:Ad}{sp:Sp}(F:br P w K mg base CX j f fd ps sp) (h:j<=k) :
  br P w K mg base CX k f fd ps sp:=⟨F.len,λA outer s H args us vs Q E hr=>F.run A outer s H args us vs Q E (hr.mono h)⟩
def br.imp {P:Program}{w:World}{K:PySem.W.Frag}{mg:Ab}{base:Heap}{CX:dY}{k:Nat}{f:Addr}{fd:FuncData}{ps:Ad}{sp BP:Sp}(F:br P w K mg base CX k f fd ps sp)
  (h:∀vs H Q E,BP vs H Q E->sp vs H Q E):br P w K mg base CX k f fd ps BP :=
 ⟨λvs H Q E q=>F.len vs H Q E (h _ _ _ _ q),λA outer s H args us vs Q E hr he hb hv hs=>F.run A outer s H args us vs Q E hr he hb hv (h _ _ _ _ hs)⟩
def fg.make {P:Program}{w:World}{K:PySem.W.Frag}{mg:Ab}{base:Heap}{A:Around}{outer:List Env}{s:Shared}{H:Hp}(e:fg P w K mg base A outer s H) (C:Addr) (us:Af) (kw:List (Str×Value)) :
  fg P w K mg base (A.under (.builtin "type.__call__" ⟨.ref C::us,kw⟩)) outer s H:=⟨by first|exact e.frames|(simpa [Around.under,Code.envs,Code.isFrame,pushEnvs] using e.frames),e.mod,e.bs,e.bsz,e.funs,e.frf,e.hok,e.bare⟩
def fg.in1 {P:Program}{w:World}{K:PySem.W.Frag}{mg:Ab}{base:Heap}{A:Around}{outer:List Env}{s:Shared}{H:Hp}(e:fg P w K mg base A outer s H) :
  fg P w K mg base A.in1 outer s H:=⟨e.frames,e.mod,e.bs,e.bsz,e.funs,e.frf,e.hok,e.bare⟩
section
variable {X:Cx}{pins:Ac}{U:St}{H:Hp}{s s':Shared}
def Inv.env0 (I:Inv X pins U H s):fg X.prog X.w X.K X.mg X.base X.A X.stack s H :=
 ⟨I.ok.frames,I.ok.mod,I.bs,y4 I.ok.bsz I.sz,I.stack,I.stkFree,I.hok,I.bare⟩
def Inv.after {Q:VK}{u:Value}(I:Inv X pins U H s) (h:CE X.stack X.prog X.w H s Q u s'):EP X pins U Q u s':=by
 obtain ⟨v,H',os,bare,un,hok,r,q⟩:=h
 obtain ⟨hh,g,d,t,Kp⟩:=s'
 obtain rfl:Kp=s.os:=os
 exact ⟨v,H',I.call (h':=hh) (g':=g) (d':=d) (t':=t) (ch:=[]) un hok bare (λb z=>absurd z (by simp)),r,q⟩
end
def Kq (sp:Sp) (dw:List V) (E:XK) (t:TA):TE:=λU H Q=>t U H λvs H1=>sp (vs++dw) H1 Q E
def Kr (C:Addr) (sp:Sp) (dw:List V) (E:XK) (t:TA):TE:=λU H Q=>t U H λvs H1=>∀x dx,H1 x=none->H1 dx=none->dx≠x ->
 sp (.ref x::(vs++dw)) (upd (upd H1 dx (.own x)) x (.ins C dx [])) (λv H2=>v=.non/\Q (.ref x) H2) E
def Binds (K:PySem.W.Frag) (fd:FuncData) (ps:Ad) (ds:Af):Prop :=
 ∀(s:Shared) (us:Af),K.In s.heap->(us++ds).length=ps.length->BindsTo s fd ⟨us,[]⟩ (ps.zip (us++ds))
def Binds.all {K:PySem.W.Frag}{fd:FuncData}{ps:Ad}(h:∀us:Af,us.length=ps.length->bindArgs fd ⟨us,[]⟩=pure (ps.zip us)):Binds K fd ps []:=λs us _ hl=>by
 rw [List.append_nil] at hl ⊢
 exact .of_eq (h us hl)
def Passes (CX:dY) (X:Cx) (E:XK):Prop:=∀(pins:Ac) (U:St) (H:Hp) (s:Shared) (e:Value) (s':Shared),Inv X pins U H s->CX X.stack H s E e s'->X.xe e s'
section
variable {X:Cx}{CX:dY}{k:Nat}{f C:Addr}{fd:FuncData}{ps:Ad}{sp:Sp}{dw:List V}{ds:Af}{E:XK}{x m:Str}{p pos apos:Pos}{e o:Expr}{es:List Expr}{ta:TE}{t:TA}
def rO {pins:Ac}{U:St}{H:Hp}{s:Shared}{Q:VK}{us:Af}{vs:List V}(F:br X.prog X.w X.K X.mg X.base CX k f fd ps sp) (hr:aY k X.A) (hb:Binds X.K fd ps ds) (hd:Vals dw ds) (hx:Passes CX X E)
  (I:Inv X pins U H s) (r:Vals vs us) (h:sp (vs++dw) H Q E):wpAny (model X.prog X.w) X.A (call (.ref f) us) (EP X pins U Q) X.xe s:=by
 have r2:Vals (vs++dw) (us++ds):=r.append hd
 have hl:(us++ds).length=ps.length:=by rw [<-r2.length];exact F.len _ _ _ _ h
 refine wpAny_call (codeAny_mono (F.run X.A X.stack s H ⟨us,[]⟩ (us++ds) (vs++dw) Q E hr I.env0 (hb s us I.kIn hl) r2 h) λr s' hq=>?_)
 cases r with
 | error e=>exact hx pins U H s e s' I hq
 | ok fl =>
  cases fl with
  | ret u=>exact I.after hq
  | next=>exact hq.elim
  | brk=>exact hq.elim
  | cont=>exact hq.elim
def Ks (F:br X.prog X.w X.K X.mg X.base CX k f fd ps sp) (hr:aY k X.A) (hg:Gl X x) (hm:X.mg x=some (.ref f)) (hk:PySem.W.keepIn X.K (.ref f)=true) (hb:Binds X.K fd ps ds) (hd:Vals dw ds) (hx:Passes CX X E)
  (ha:PA X (e::es) t) (cL:(x==("__debug__" : Str))=false:=by decide) (he:starEach (e::es) X.env=(false,eval e X.env)::starEach es X.env:=by rfl) (bu:(backTo pos (starEach es X.env)).any (·.1)=false:=by rfl) :
  PE X (.Call (.Name x p) (e::es) [] pos) (Kq sp dw E t):=by
 intro pins s U H Q I h
 refine wpAny_Call_Name_kw (oR I hg hm ?_ cL)
 refine PySem.W.callWith_K (h₀:=X.base) I.ok.mod.kin hk (aV (ha pos pins s U H _ I h) λus s1 ⟨vs,H1,I1,r,q⟩=>⟨I1.kIn,?_⟩) he bu
 exact rO F hr hb hd hx I1 r q
structure Mk (K:PySem.W.Frag) (C f:Addr):Prop where
 makes:PySem.W.makesIn K C=true
 init:PySem.W.findIn K (.ref C) "__init__" = some (some (.ref f))
 fn:PySem.W.isFn K (.ref f)=true
 kp:PySem.W.keepIn K (.ref C)=true
def BQ {pins:Ac}{U:St}{H:Hp}{s:Shared}{Q:VK}{us:Af}{vs:List V}(M:Mk X.K C f) (F:br X.prog X.w X.K X.mg X.base CX k f fd ps sp) (hr:aY (k+1) X.A) (hb:Binds X.K fd ps ds) (hd:Vals dw ds)
  (hx:Passes CX X E) (I:Inv X pins U H s) (r:Vals vs us)
  (h:∀x dx,H x=none->H dx=none->dx≠x->sp (.ref x::(vs++dw)) (upd (upd H dx (.own x)) x (.ins C dx [])) (λv H2=>v=.non/\Q (.ref x) H2) E) :
  wpAny (model X.prog X.w) X.A (call (.ref C) us) (EP X pins U Q) X.xe s:=by
 have hq:=h (s.heap.objs.size+1) s.heap.objs.size (I.hok.fresh (Nat.le_succ _)) (I.hok.fresh (ye _)) (yK (jK _))
 have I2:=Inv.made (C:=C) I
 have r2:Vals (V.ref (s.heap.objs.size+1)::(vs++dw)) (Value.ref (s.heap.objs.size+1)::(us++ds)):=.cons rfl (r.append hd)
 have hl:(Value.ref (s.heap.objs.size+1)::us++ds).length=ps.length:=by
  have e:=r2.length
  rw [F.len _ _ _ _ hq] at e
  exact e.symm
 refine wpAny_call (Kb (f:=f) I.kIn M.makes M.init (beq_iff_eq.mp M.fn) (codeAny_mono (F.run _ X.stack _ _ ⟨Value.ref (s.heap.objs.size+1)::us,[]⟩ (Value.ref (s.heap.objs.size+1)::(us++ds)) _ _ E (hr.make C us [])
  (I2.env0.make C us []) (hb _ (Value.ref (s.heap.objs.size+1)::us) I2.kIn hl) r2 hq) λr s' hq'=>?_))
 cases r with
 | error e=>exact hx pins U _ _ e s' I2 hq'
 | ok fl =>
  cases fl with
  | ret u =>
   obtain ⟨v,H',I3,rv,ev,q3⟩:=I2.after hq'
   subst ev
   exact ⟨rv,⟨V.ref (s.heap.objs.size+1),H',I3,rfl,q3⟩⟩
  | next=>exact hq'.elim
  | brk=>exact hq'.elim
  | cont=>exact hq'.elim
def Kt (M:Mk X.K C f) (F:br X.prog X.w X.K X.mg X.base CX k f fd ps sp) (hr:aY (k+1) X.A) (hg:Gl X x) (hm:X.mg x=some (.ref C)) (hb:Binds X.K fd ps ds) (hd:Vals dw ds) (hx:Passes CX X E)
  (ha:PA X (e::es) t) (cL:(x==("__debug__" : Str))=false:=by decide) (he:starEach (e::es) X.env=(false,eval e X.env)::starEach es X.env:=by rfl) (bu:(backTo pos (starEach es X.env)).any (·.1)=false:=by rfl) :
  PE X (.Call (.Name x p) (e::es) [] pos) (Kr C sp dw E t):=by
 intro pins s U H Q I h
 refine wpAny_Call_Name_kw (oR I hg hm ?_ cL)
 refine PySem.W.callWith_K (h₀:=X.base) I.ok.mod.kin M.kp (aV (ha pos pins s U H _ I h) λus s1 ⟨vs,H1,I1,r,q⟩=>⟨I1.kIn,?_⟩) he bu
 exact BQ M F hr hb hd hx I1 r q
end
section
variable {X:Cx}{CX:dY}{k:Nat}{f C:Addr}{fd:FuncData}{ps ks:Ad}{sp:Sp}{E:XK}{x m:Str}{p pos apos XG:Pos}{e o:Expr}{es:List Expr}{XW:List Keyword}{te ta:TE}{t tk:TA}{nm:Option Str}
structure Ib (K:PySem.W.Frag) (fd:FuncData) (ps ks:Ad) (g:List Value->List Value->Af) (gV:List V->List V->List V):Prop where
 to:∀(s:Shared) (us ws:Af),K.In s.heap->(g us ws).length=ps.length->BindsTo s fd ⟨us,ks.zip ws⟩ (ps.zip (g us ws))
 rel:∀{vs:List V} {us:Af} {zs:List V} {ws:Af},Vals vs us->Vals zs ws->Vals (gV vs zs) (g us ws)
variable {g:List Value->List Value->Af}{gV:List V->List V->List V}
end
structure au (N P:Ad) (sc:Scope):Prop where
 kind:sc.kind=.function
 co:sc.isCoroutine=false
 gen:sc.isGenerator=false
 nd:N.Nodup
 pre:N.take P.length=P
 par:∀x∈P,sc.names.lookup x=some .local\/sc.names.lookup x=some .cell
 nofree:∀y∈sc.names,y.2 ≠ .free
theorem BS {kindOf:Str->Option NameKind}{x:Str}:∀{binds:List (Str×Value)}{m:Ab},(∀v,(x,v)∉binds)->bindL kindOf binds m x=m x
 | [],_,_=>rfl
 | (n,v)::r,m,h=>by
  unfold bindL
  rw [BS λw hw=>h w (jq _ hw)]
  split
  ·have:x≠n:=by rintro rfl;exact h v jd
   simp [this]
  ·rfl
theorem BU {kindOf:Str->Option NameKind}{x:Str}:∀{binds:List (Str×Value)}{m:Ab},(∀v,(x,v)∉binds)->bindC kindOf binds m x=m x
 | [],_,_=>rfl
 | (n,v)::r,m,h=>by
  unfold bindC
  rw [BU λw hw=>h w (jq _ hw)]
  split
  ·rfl
  ·have:x≠n:=by rintro rfl;exact h v jd
   simp [this]
theorem BV {kindOf:Str->Option NameKind}{x:Str}{v:Value}:∀{P:Ad}{vs:Af}{i:Nat}{m:Ab},P.Nodup->P[i]?=some x->vs[i]?=some v->kindOf x=some .local ->
  bindL kindOf (P.zip vs) m x=some v
 | [],_,_,_,_,h,_,_=>by simp at h
 | _::_,[],_,_,_,_,h,_=>by simp at h
 | p::P,w::vs,0,m,nd,h1,h2,hk=>by
  simp at h1 h2;subst h1;subst h2
  show bindL kindOf ((p,w)::P.zip vs) m p=_
  unfold bindL
  rw [BS λv hv=>(jI.mp nd).1 (List.of_mem_zip hv).1,zx hk]
  simp
 | p::P,w::vs,i+1,m,nd,h1,h2,hk=>by
  show bindL kindOf ((p,w)::P.zip vs) m x=_
  unfold bindL
  exact BV (i:=i) (jI.mp nd).2 (by simpa using h1) (by simpa using h2) hk
theorem BW {kindOf:Str->Option NameKind}{x:Str}{v:Value}:∀{P:Ad}{vs:Af}{i:Nat}{m:Ab},P.Nodup->P[i]?=some x->vs[i]?=some v->kindOf x≠some .local ->
  bindC kindOf (P.zip vs) m x=some v
 | [],_,_,_,_,h,_,_=>by simp at h
 | _::_,[],_,_,_,_,h,_=>by simp at h
 | p::P,w::vs,0,m,nd,h1,h2,hk=>by
  simp at h1 h2;subst h1;subst h2
  show bindC kindOf ((p,w)::P.zip vs) m p=_
  unfold bindC
  rw [BU λv hv=>(jI.mp nd).1 (List.of_mem_zip hv).1,zH hk]
  simp
 | p::P,w::vs,i+1,m,nd,h1,h2,hk=>by
  show bindC kindOf ((p,w)::P.zip vs) m x=_
  unfold bindC
  exact BW (i:=i) (jI.mp nd).2 (by simpa using h1) (by simpa using h2) hk
def start (N:Ad) (vs:List V):St:=vs.map some++List.replicate (N.length-vs.length) none
def dy (CX:dY) (P:Program) (w:World) (K:PySem.W.Frag) (mg:Ab) (base:Heap) (N:Ad) (qual:Str) (scope:Scope) (f:Addr) (cd:Value) (A:Around) (outer:List Env) (s:Shared) (H:Hp) (E:XK):Cx where
 prog:=P
 w:=w
 K:=K
 mg:=mg
 base:=base
 A:=A.deeper (envOfC qual scope s.heap.objs.size f cd)
 N:=N
 s₀:=s
 H₀:=H
 env:=envOfC qual scope s.heap.objs.size f cd
 outer:=outer
 stack:=envOfC qual scope s.heap.objs.size f cd::outer
 ex:=[]
 calm:=true
 fn:=λ_=>true
 pn:=[]
 xe:=λe s'=>wpAny (model P w) (A.deeper (envOfC qual scope s.heap.objs.size f cd)) (leaving (envOfC qual scope s.heap.objs.size f cd) e) (λ_ va=>CX outer H s E e va) (λe' va=>CX outer H s E e' va) s'
def BX {sc:Scope}{n:Nat}{x:Str}(h:sc.names.lookup x=some .cell):∃c,(cellsFrom n sc.names []).lookup x=some c:=by
 have q:=PySem.W.cellsFrom_some sc.names n [] (.inl h)
 exact Option.isSome_iff_exists.mp q
theorem Ku {CX:dY}{P:Program}{w:World}{K:PySem.W.Frag}{mg:Ab}{base:Heap}{N ps:Ad}{qual:Str}{scope:Scope}{f:Addr}{cd:Value}{A:Around}{outer:List Env}{s s1:Shared}{H:Hp}{E:XK}{us:Af}{vs:List V}
  (S:au N ps scope) (hd:A.handled=none) (e0:fg P w K mg base A outer s H) (hl:vs.length=ps.length) (r:Vals vs us)
  (x:InCallC s s.heap.objs.size (bindL (envOfC qual scope s.heap.objs.size f cd).kindOf (ps.zip us) λ_=>none) (cellsFrom (s.heap.objs.size+1) scope.names []) (bindC (envOfC qual scope s.heap.objs.size f cd).kindOf (ps.zip us) λ_=>none) s1) :
  Inv (dy CX P w K mg base N qual scope f cd A outer s H E) [] (start N vs) H s1:=by
 have bu:ps.length<=N.length:=by have:=congrArg List.length S.pre;rw [List.length_take] at this;omega
 obtain ⟨h1,tk,rfl,hk⟩:=x.done
 have o9:∀b:Addr,b∉(dy CX P w K mg base N qual scope f cd A outer s H E).ex:=λb z=>absurd (show b∈([]:Ae) from z) (by simp)
 refine ⟨⟨e0.mod,S.kind,rfl,rfl,ye _,λy z c h1 h2=>?_,λy hy=>?_,λy c _ h=>?_,λ_=>hd,Around.frames_deeper e0.frames,.inr ⟨rfl,rfl⟩,λb z=>absurd z (o9 b),e0.bs,e0.bsz,λb _ _=>o9 b,λb z=>absurd z (o9 b),e0.funs,e0.frf⟩,
  rfl,e0.bare,Un.kept hk,⟨_,x.toInCall.ns,λi y v h1 h2 h3=>?_⟩,λy c h=>⟨_,x.cell y c h⟩,e0.hok.fresh (ye _),λy c h=>?_,λp hp=>absurd (show p∈([]:Ac) from hp) (by simp),e0.hok.kept hk,?_⟩
 ·exact name_of_addr x.apart (PySem.mem_of_lookup h1) (PySem.mem_of_lookup h2)
 ·have hy:scope.names.lookup y=some .cell\/scope.names.lookup y=some .free:=hy
  rcases hy with hy|hy
  ·exact BX hy
  ·exact absurd rfl (S.nofree _ (PySem.mem_of_lookup hy))
 ·exact Nat.le_of_lt (x.above y c (PySem.mem_of_lookup h))
 ·have hi:i<vs.length:=by
   unfold start at h2
   by_cases hi:i<vs.length
   ·exact hi
   ·rw [ic (by simpa using hi)] at h2
    rw [List.getElem?_replicate] at h2
    split at h2<;>cases h2
  have ha:vs[i]?=some v:=by
   unfold start at h2
   rw [ib (by simpa using hi),yZ] at h2
   cases e:vs[i]? with
   | none=>rw [e] at h2;cases h2
   | some a=>rw [e] at h2;cases h2;rfl
  obtain ⟨u,hu,rv⟩:=r.get ha
  have hp:ps[i]?=some y:=by
   rw [<-S.pre,List.getElem?_take_of_lt (by omega)];exact h1
  have BZ:ps.Nodup:=by rw [<-S.pre];exact S.nd.sublist (List.take_sublist _ _)
  refine ⟨u,rv,?_⟩
  rcases S.par y (ly hp) with k|k
  ·exact .inl ⟨k,BV BZ hp hu k⟩
  ·obtain ⟨c,e⟩:=BX (n:=s.heap.objs.size+1) k
   refine .inr ⟨.inl k,c,e,?_⟩
   have q:=x.cell y c e
   rw [BW BZ hp hu (by show scope.names.lookup y≠_;rw [k];decide)] at q
   exact q
 ·exact e0.hok.fresh (Nat.le_of_lt (x.above y c (PySem.mem_of_lookup h)))
 ·unfold start
  show _=N.length
  rw [wo,jk,List.length_replicate]
  omega
def B0 {CX:dY}{P:Program}{w:World}{K:PySem.W.Frag}{mg:Ab}{base:Heap}{k:Nat}{f:Addr}{name qual:Str}{params:Arguments}{body:List Stmt}{scope:Scope}{dV kV doc pm aX ct oc:Value}{an od:Option Addr}
  {fy:Array (Option Value)} {N ps:Ad} {sp:Sp} (lk:K.lookup f=some ⟨oc,od,.func (PySem.W.fnOf name qual params body scope dV kV doc pm an aX ct),fy⟩) (fX:PySem.W.codeIn K aX qual=true) (S:au N ps scope)
  (len:∀vs H Q E,sp vs H Q E->vs.length=ps.length)
  (fz:∀(A:Around) (outer:List Env) (s:Shared) (H:Hp) (vs:List V) (Q:VK) (E:XK),aY k (A.deeper (envOfC qual scope s.heap.objs.size f aX))->sp vs H Q E ->
   ∃t,cy (dy CX P w K mg base N qual scope f aX A outer s H E) body t/\t { nx:=λ_ H'=>Q .non H',rt:=Q } (start N vs) H) :
  br P w K mg base CX (k+1) f (PySem.W.fnOf name qual params body scope dV kV doc pm an aX ct) ps sp:=by
 refine ⟨len,λA outer s H args us vs Q E hr e0 hb r gW=>?_⟩
 have hl:=len _ _ _ _ gW
 have KX:K.In s.heap:=e0.mod.kin.keeps λb o e=>(e0.bs b o e).1
 have lim:s.heap.NoLimit:=e0.mod.nolimit.keeps λb o e=>(e0.bs b o e).1
 have vb:∀y∈ps.zip us,scope.names.lookup y.1=some .local\/(scope.names.lookup y.1=some .cell/\((cellsFrom (s.heap.objs.size+1) scope.names []).lookup y.1).isSome=true):=λ⟨n,v⟩ hy=>by
  rcases S.par n (List.of_mem_zip hy).1 with q|q
  ·exact .inl q
  ·exact .inr ⟨q,PySem.W.cellsFrom_some _ _ _ (.inl q)⟩
 refine codeAny_call_function hr.depth (KX _ _ lk) rfl S.co S.gen rfl (PySem.W.codeRec_of KX fX) (hb _ _ _ _ ?_)
 refine wpAny_newFunctionEnv_cells S.kind vb λenv he s1 x=>?_
 subst he
 refine ⟨lim.keeps x.toInCall.keep,codeAny_func ?_⟩
 obtain ⟨t,ht,hq⟩:=fz A outer s H vs Q E (hr.deeper _) gW
 have I:Inv (dy CX P w K mg base N qual scope f aX A outer s H E) [] (start N vs) H s1:=Ku S hr.hd e0 hl r x
 refine yP (ht [] s1 (start N vs) H _ I hq) (λfl s' hs=>?_) λe s' hs=>hs
 have fin:∀{ai:St} {H':Hp} {v:V} {u:Value},Inv (dy CX P w K mg base N qual scope f aX A outer s H E) [] ai H' s'->RelV v u->Q v H'->CE outer P w H s Q u s' :=
  λ{ai H' v u} J rv q=>⟨v,H',J.os,J.bare,J.base,J.hok,rv,q⟩
 cases fl with
 | ret u =>
  obtain ⟨v,ai,H',J,rv,q⟩:=hs
  exact fin J rv q
 | next =>
  obtain ⟨ai,H',J,q⟩:=hs
  exact fin (v:=V.non) (u:=Value.none) J rfl q
 | brk =>
  obtain ⟨_,_,_,q⟩:=hs
  exact q.elim
 | cont =>
  obtain ⟨_,_,_,q⟩:=hs
  exact q.elim
section
variable {X:Cx}{x:Str}{p pos:Pos}{e:Expr}{es:List Expr}{t:TA}{id T:String}{r:List V->Hp->VK->Prop}
def B3 (r:List V->Hp->VK->Prop) (t:TA):TE:=λU H Q=>t U H λvs H1=>r vs H1 Q
def Kv (hc:bY X (.builtin id) r) (hg:Gl X x) (hm:X.mg x=none) (hv:bootBuiltins x=some (.builtin id)) (ha:PA X (e::es) t) (hn:x ≠ "__name__" := by decide) (cL:(x==("__debug__" : Str))=false:=by decide)
  (he:starEach (e::es) X.env=(false,eval e X.env)::starEach es X.env:=by rfl) (bu:(backTo pos (starEach es X.env)).any (·.1)=false:=by rfl):PE X (.Call (.Name x p) (e::es) [] pos) (B3 r t):=by
 intro pins s U H Q I h
 refine wpAny_Call_Name_kw (lE I hg hm hv ?_ hn cL)
 exact PyProof.Rows.callWith_builtin1 (aV (ha pos pins s U H _ I h) λus s1 ⟨vs,H1,I1,r1,q1⟩=>hc pins s1 U H1 vs us Q I1 r1 q1) he bu
def Kw (hc:bY X (.type T) r) (hg:Gl X x) (hm:X.mg x=none) (hv:bootBuiltins x=some (.type T)) (ha:PA X (e::es) t) (hn:x ≠ "__name__" := by decide) (cL:(x==("__debug__" : Str))=false:=by decide)
  (he:starEach (e::es) X.env=(false,eval e X.env)::starEach es X.env:=by rfl) (bu:(backTo pos (starEach es X.env)).any (·.1)=false:=by rfl):PE X (.Call (.Name x p) (e::es) [] pos) (B3 r t):=by
 intro pins s U H Q I h
 refine wpAny_Call_Name_kw (lE I hg hm hv ?_ hn cL)
 exact PyProof.Rows.callWith_type1 (aV (ha pos pins s U H _ I h) λus s1 ⟨vs,H1,I1,r1,q1⟩=>hc pins s1 U H1 vs us Q I1 r1 q1) he bu
end
end L2
namespace HT
open PySem PyProof.Rows
section
open PySem.SeqAt
open PySem.AutoSeq1 (wpAny_loadPart')
open PySem.MeetsSeq PySem.MeetsSeq2 PySem.MeetsSeq3
end
section
variable {prog:Program}{w:World}{A:Around}{E:Aa}{s:Shared}
def cat_tup {t b:Addr}{vs ws:Af}{Q:Aa}(ht:IsTup s.heap t vs.toArray) (hb:IsTup s.heap b ws.toArray) (hv:vs≠[])
  (h1:ws=[]->Q (.ref t) s) (h2:ws≠[]->Q (.ref s.heap.objs.size) { s with heap:=s.heap.push { cls:=.type "tuple", data:=.seq (vs++ws).toArray } })
  (hsz:vs.length+ws.length<=sizeLine):wpAny (model prog w) A (binaryOp .Add (.ref t) (.ref b)) Q E s:=by
 obtain ⟨⟨cls,dd,data,sl⟩,ho,hc,n,hd⟩:=id ht
 obtain ⟨⟨uI,lI,data2,iq⟩,ho2,gw,n2,hd2⟩:=id hb
 simp only at hc hd gw hd2
 subst hc hd gw hd2
 have e:vs.toArray++ws.toArray=(vs++ws).toArray:=by simp
 by_cases hw:ws=[]
 ·exact concat_meets ⟨_,ho,rfl⟩ ⟨_,ho2,rfl⟩ noFill_tuple_add seq_tuple_add PySem.F.slot_tuple_add PySem.F.entry_tuple_add (PySem.F.args_tuple_add_2 _ _)
   (tuple_addW1 t b vs.toArray ws.toArray n n2 dd lI sl iq (by simpa using hv) (by simp [hw])) ⟨ho,ho2,h1 hw⟩
 ·refine concat_meets ⟨_,ho,rfl⟩ ⟨_,ho2,rfl⟩ noFill_tuple_add seq_tuple_add PySem.F.slot_tuple_add PySem.F.entry_tuple_add (PySem.F.args_tuple_add_2 _ _)
   (tuple_addW2 t b vs.toArray ws.toArray n n2 dd lI sl iq (by simpa using hv) (by simpa using hw) (by rw [yQ,yQ];exact hsz)) ⟨ho,ho2,?_⟩
  rw [e]
  exact h2 hw
def sIx (n d:Nat):Option Int->Nat
 | none=>d
 | some v=>if v<0 then (v+(n:Int)).toNat else min v.toNat n
theorem Ky (n d:Nat) (hd:d<=n) (o:Option Int):sIx n d o<=n:=by
 cases o with
 | none=>exact hd
 | some v =>
  show (if v<0 then (v+(n:Int)).toNat else min v.toNat n)<=n
  by_cases hv:v<0
  ·rw [zx hv];omega
  ·rw [zH hv];exact Nat.min_le_right _ _
theorem B4 (v:Int) (n d:Nat):(if v<0 then max (v+(n:Int)) 0 else min v (n:Int))=((sIx n d (some v):Nat):Int):=by
 show (if v<0 then max (v+(n:Int)) 0 else min v (n:Int))=(((if v<0 then (v+(n:Int)).toNat else min v.toNat n):Nat):Int)
 by_cases hv:v<0
 ·simp only [zx hv];omega
 ·simp only [zH hv];omega
theorem Kz (lo hi:Option Int) (n:Nat):Builtin.Slice.sliceAdjust lo hi 1 (n:Int)=(((sIx n 0 lo:Nat):Int),((sIx n n hi:Nat):Int)):=by
 have h1:¬((1:Int)<0):=by omega
 unfold Builtin.Slice.sliceAdjust
 simp only [h1,if_false]
 refine Prod.ext ?_ ?_
 ·cases lo with
  | none=>rfl
  | some v=>exact B4 v n 0
 ·cases hi with
  | none=>rfl
  | some v=>exact B4 v n n
theorem KA (i j:Nat):Builtin.Slice.slicePlaces (i:Int) (j:Int) 1=j-i:=by
 unfold Builtin.Slice.slicePlaces
 have h1:(1:Int)>0:=by omega
 simp only [h1,if_true,Int.ediv_one]
 split<;>omega
def B6 {v:Value}{o:Option Int}{Q:Option Int->Shared->Prop}(p:IsPart v o) (h:Q o s):wpAny (model prog w) A (Builtin.Slice.slicePartIndex v) Q E s:=by
 cases p with
 | none=>exact slicePart_none h
 | int i t=>exact slicePart_int h
def B7 {sl:Addr}{vl vu:Value}{lo hi:Option Int}{n:Nat}{Q:Int×Int×Nat->Shared->Prop}(hs:s.heap.IsSliceOf sl vl vu .none) (pl:IsPart vl lo) (pu:IsPart vu hi)
  (h:Q (((sIx n 0 lo:Nat):Int),1,sIx n n hi-sIx n 0 lo) s):wpAny (model prog w) A (Builtin.Slice.sliceApplied (.ref sl) (pure (n:Int))) Q E s:=by
 obtain ⟨os,lJ,rP,o_⟩:=id hs
 unfold Builtin.Slice.sliceApplied Builtin.Slice.sliceFields
 refine zt (zt (jc lJ o_ (x:=vl) rfl (zt (jc lJ o_ (x:=vu) rfl (zt (jc lJ o_ (x:=.none) rfl (zM ?_)))))))
 refine zt (slicePart_none ?_)
 show wpAny _ _ (if ((1:Int)==0)=true then _ else _) _ _ s
 rw [zH (by decide)]
 refine zt (B6 pl (zt (B6 pu (zt (zM ?_)))))
 show wpAny _ _ (match Builtin.Slice.sliceAdjust lo hi 1 (n:Int) with|(lo,hi)=>pure (lo,(1:Int),Builtin.Slice.slicePlaces lo hi 1)) _ _ s
 rw [Kz lo hi n]
 show wpAny _ _ (pure (((sIx n 0 lo:Nat):Int),(1:Int),Builtin.Slice.slicePlaces ((sIx n 0 lo:Nat):Int) ((sIx n n hi:Nat):Int) 1)) _ _ s
 rw [KA]
 exact zM h
theorem KC (xs:Array Value) (i k:Nat):((List.range k).filterMap λ(m:Nat)=>xs[((i:Int)+(m:Int)*1).toNat]?).toArray=((xs.toList.drop i).take k).toArray:=by
 have e:(λ(m:Nat)=>xs[((i:Int)+(m:Int)*1).toNat]?)=λm=>xs[i+m]?:=by
  funext m
  have:((i:Int)+(m:Int)*1).toNat=i+m:=by omega
  rw [this]
 rw [e]
 have:=pick_run xs i k
 rw [List.filterMap_map] at this
 have e2:((λx=>xs[x]?)∘λx=>i+x)=λm=>xs[i+m]?:=rfl
 rw [e2] at this
 rw [this]
theorem getItem_tuple_cut {t sl:Addr}{items:Array Value}{vl vu:Value}{lo hi:Option Int}{Q:Aa}(ht:IsTup s.heap t items) (hs:s.heap.IsSliceOf sl vl vu .none) (pl:IsPart vl lo) (pu:IsPart vu hi)
  (hw:¬(sIx items.size 0 lo=0/\sIx items.size items.size hi=items.size))
  (h:Q (.ref s.heap.objs.size) { s with heap:=s.heap.push { cls:=.type "tuple", data:=.seq ((items.toList.drop (sIx items.size 0 lo)).take (sIx items.size items.size hi-sIx items.size 0 lo)).toArray } })
  (hsz:items.size<=sizeLine):wpAny (model prog w) A (getItem (.ref t) (.ref sl)) Q E s:=by
 have iu:sizeOk (.seq ((items.toList.drop (sIx items.size 0 lo)).take (sIx items.size items.size hi-sIx items.size 0 lo)).toArray):=by
  show ((items.toList.drop (sIx items.size 0 lo)).take (sIx items.size items.size hi-sIx items.size 0 lo)).toArray.size<=sizeLine
  rw [yQ,List.length_take,List.length_drop,Array.length_toList]
  omega
 have hj:sIx items.size items.size hi<=items.size:=Ky _ _ (ye _) hi
 obtain ⟨os,lJ,rP,o_⟩:=id hs
 have vc:s.TypeIs (.ref sl) "slice" := ⟨os,lJ,rP⟩
 unfold getItem
 try with_reducible refine wn ?_
 first|refine zt (zM ?_)|skip
 refine zt (wpAny_sequenceKey ht.typeIs (by decide) ?_)
 refine zt (wpAny_callSpecial?_slot (name:=Str.ofString "__getitem__") ht.typeIs PyProof.Rows.slot_tuple_getitem
  (wm PyProof.Rows.slot_tuple_getitem ht.typeIs entry_tuple_getitem ?_ (args_tuple_getitem _ _)))
 show wpAny _ _ (Builtin.Tuple.tupleItemsOf (.ref t) >>= _) _ _ s
 refine zt (tupleItemsOf_ ht ?_)
 refine zt (wpAny_typeOf vc ?_)
 rw [zx (by decide)]
 refine zt (B7 hs pl pu ?_)
 have KG:¬((((sIx items.size 0 lo:Nat):Int)==0&&(1:Int)==1&&(sIx items.size items.size hi-sIx items.size 0 lo)==items.size)=true):=by
  intro q
  rw [ia,ia] at q
  have q1:((sIx items.size 0 lo:Nat):Int)=0:=eq_of_beq q.1.1
  have q2:sIx items.size items.size hi-sIx items.size 0 lo=items.size:=eq_of_beq q.2
  exact hw ⟨by omega,by omega⟩
 show wpAny _ _ (if (((sIx items.size 0 lo:Nat):Int)==0&&(1:Int)==1&&(sIx items.size items.size hi-sIx items.size 0 lo)==items.size)=true then _ else _) _ _ s
 rw [zH KG,KC]
 first
  | exact zt (m:=Builtin.Tuple.tupleExact _) (hW (zM ⟨_,rfl,zM h⟩) iu)
  | exact zt (m:=Builtin.Tuple.tupleExact _) (hW (zt (zM (zM ⟨_,rfl,zM h⟩))) iu)
  | exact zt (zt (m:=Builtin.Tuple.tupleExact _) (hW (zM (zM ⟨_,rfl,zM h⟩)) iu))
  | exact zt (zt (m:=Builtin.Tuple.tupleExact _) (hW (zM ⟨_,rfl,zM h⟩) iu))
end
end HT
namespace L2
open PySem PySem.Spec PyProof.Rows
abbrev TO:=St->Hp->(Option Int->Hp->Prop)->Prop
def PO (X:Cx) (e:Option Expr) (t:TO):Prop :=
 ∀(pins:Ac) (s:Shared) (U:St) (H:Hp) (Q:Option Int->Hp->Prop),Inv X pins U H s->t U H Q ->
  wpAny (model X.prog X.w) X.A (evalPart e X.env) (λu s'=>∃o H',Inv X pins U H' s'/\IsPart u o/\Q o H') X.xe s
def KH:TO:=λ_ H Q=>Q none H
def KJ (t:TE):TO:=λU H Q=>t U H λx H1=>∃i,x=.int i/\Q (some i) H1
section
variable {X:Cx}{e:Expr}{te:TE}{lo hi:Option Expr}{tl th:TO}{pos p2:Pos}
def KL:PO X none KH:=by
 intro pins s U H Q I h
 rw [evalPart_none]
 exact zM ⟨none,H,I,.none,h⟩
def KN (h:PE X e te):PO X (some e) (KJ te):=by
 intro pins s U H Q I hw
 rw [evalPart_some]
 refine aV (h pins s U H _ I hw) λu s1 ⟨x,H1,I1,r1,q1⟩=>?_
 obtain ⟨i,rfl,q⟩:=q1
 obtain ⟨t,rfl⟩:=r1
 exact ⟨some i,H1,I1,.int i t,q⟩
def iw (X:Cx) (r:V->Option Int->Option Int->Hp->VK->Prop):Prop :=
 ∀(pins:Ac) (s:Shared) (U:St) (H:Hp) (x:V) (v vl vu:Value) (lo hi:Option Int) (sl:Addr) (Q:VK),Inv X pins U H s->RelV x v->s.heap.IsSliceOf sl vl vu .none->IsPart vl lo->IsPart vu hi->r x lo hi H Q ->
  ∃T id,typeLookup (.type T) "__getitem__" = pure (some (.builtin id))/\s.TypeIs v T/\wpAny (model X.prog X.w) X.A (getItem v (.ref sl)) (EP X pins U Q) X.xe s
def iw.or {r r':V->Option Int->Option Int->Hp->VK->Prop}(h:iw X r) (h':iw X r'):iw X (λx lo hi H Q=>r x lo hi H Q\/r' x lo hi H Q):=by
 intro pins s U H x v vl vu lo hi sl Q I rx hs pl pu q
 rcases q with q|q
 ·exact h pins s U H x v vl vu lo hi sl Q I rx hs pl pu q
 ·exact h' pins s U H x v vl vu lo hi sl Q I rx hs pl pu q
def KO (r:V->Option Int->Option Int->Hp->VK->Prop) (te:TE) (tl th:TO):TE:=λU H Q=>te U H λx H1=>tl U H1 λl H2=>th U H2 λu H3=>r x l u H3 Q
def KQ {r:V->Option Int->Option Int->Hp->VK->Prop}(hr:iw X r) (he:PE X e te) (hl:PO X lo tl) (hu:PO X hi th):PE X (.Subscript e (.Slice lo hi none p2) pos) (KO r te tl th):=by
 intro pins s U H Q I h
 refine Subscript_ (aV (he pins s U H _ I h) λv s1 ⟨x,H1,I1,r1,q1⟩=>?_)
 refine wpAny_Slice (aV (hl pins s1 U H1 _ I1 q1) λvl s2 ⟨l,H2,I2,pl,q2⟩=>aV (hu pins s2 U H2 _ I2 q2) λvu s3 ⟨u,H3,I3,pu,q3⟩=>?_)
 rw [evalPart_none]
 refine zM ?_
 have I4:Inv X pins U H3 { s3 with heap:=s3.heap.push { cls:=.type "slice", data:=.fields #[vl,vu,.none] } }:=I3.kept (t':=s3.toks) λb ob q=>yk _ q
 obtain ⟨T,id,hT,ht,hg⟩:=hr pins { s3 with heap:=s3.heap.push { cls:=.type "slice", data:=.fields #[vl,vu,.none] } } U H3 x v vl vu l u s3.heap.objs.size Q I4 r1 (Heap.IsSliceOf.new ..) pl pu q3
 show wpAny (model X.prog X.w) X.A (subscriptTail e (.Slice lo hi none p2) v (.ref s3.heap.objs.size)) (EP X pins U Q) X.xe { s3 with heap:=s3.heap.push { cls:=.type "slice", data:=.fields #[vl,vu,.none] } }
 exact tail_any (ops:=[.ref s3.heap.objs.size,v]) ht hT hg (by with_unfolding_all rfl)
def gj (xs:List V) (lo hi:Option Int):List V:=(xs.drop (HT.sIx xs.length 0 lo)).take (HT.sIx xs.length xs.length hi-HT.sIx xs.length 0 lo)
theorem B8 (xs:List V) (lo hi:Option Int):(gj xs lo hi).length<=xs.length:=by
 unfold gj
 rw [List.length_take,List.length_drop]
 omega
def KR (K:PySem.W.Frag):V->Option Int->Option Int->Hp->VK->Prop:=λx lo hi H Q=>∃a xs,x=.ref a/\a9 K H a xs /\
 ¬(HT.sIx xs.length 0 lo=0/\HT.sIx xs.length xs.length hi=xs.length)/\∀p,H p=none->Q (.ref p) (upd H p (.tup (gj xs lo hi)))
def KS:iw X (KR X.K):=by
 intro pins s U H x v vl vu lo hi sl Q I rx hs pl pu h
 obtain ⟨a,xs,rfl,hx,hw,q⟩:=h
 cases rx
 obtain ⟨its,r,ht,hz⟩:=I.tuple hx
 have hlen:its.toArray.size=xs.length:=by rw [yQ];exact r.length.symm
 refine ⟨"tuple", _,PyProof.Rows.slot_tuple_getitem.lookup,ht.typeIs,?_⟩
 refine HT.getItem_tuple_cut ht hs pl pu (by rw [hlen];exact hw) ?_ (by rw [hlen];exact hz)
 rw [hlen]
 refine ⟨.ref s.heap.objs.size,_,I.laid (t':=s.toks) (o:=.tup (gj xs lo hi)) (λb ob q=>yk _ q) (ye _) ?_,rfl,q _ (I.hok.fresh (ye _))⟩
 exact ⟨y4 (B8 xs lo hi) hz,_,(r.drop (HT.sIx xs.length 0 lo)).take (HT.sIx xs.length xs.length hi-HT.sIx xs.length 0 lo),IsTup.new _ _⟩
def KU (K:PySem.W.Frag):R2:=λx y H Q=>∃a b xs ys,x=.ref a/\y=.ref b/\a9 K H a xs/\a9 K H b ys/\xs≠[]/\xs.length+ys.length<=sizeLine /\
 (ys=[]->Q (.ref a) H)/\(ys≠[]->∀p,H p=none->Q (.ref p) (upd H p (.tup (xs++ys))))
def Vals.nil_iff {xs:List V}{us:Af}(r:Vals xs us):us=[]↔xs=[]:=by
 cases r with
 | nil=>simp
 | cons _ _=>simp
def KW:ba X (binaryOp .Add) (KU X.K):=by
 intro pins s U H x y v u Q I rx ry h
 obtain ⟨a,b,xs,ys,rfl,rfl,ha,hb,hx,hz,q1,q2⟩:=h
 cases rx
 cases ry
 obtain ⟨its,r1,p1,_⟩:=I.tuple ha
 obtain ⟨aU,r2,p2,_⟩:=I.tuple hb
 refine HT.cat_tup p1 p2 (λz=>hx (r1.nil_iff.mp z)) (λz=>⟨.ref a,H,I,rfl,q1 (r2.nil_iff.mp z)⟩) (λz=>?_) (by rw [<-r1.length,<-r2.length];exact hz)
 refine ⟨.ref s.heap.objs.size,_,I.laid (t':=s.toks) (o:=.tup (xs++ys)) (λb ob q=>yk _ q) (ye _) ?_,rfl,q2 (λw=>z (r2.nil_iff.mpr w)) _ (I.hok.fresh (ye _))⟩
 exact ⟨by rw [wo];exact hz,_,r1.append r2,IsTup.new _ _⟩
end
def fG (n:Nat) (i:Int):Option Nat:=if 0<=i then (if i<n then some i.toNat else none) else if -(n:Int)<=i then some (i+n).toNat else none
def cu {α:Type}(xs:List α) (i:Int):Option α:=(fG xs.length i).bind λj=>xs[j]?
theorem KY {n:Nat}{i:Int}{j:Nat}(h:fG n i=some j):seqIndex? i n=some j/\j<n /\ -(n:Int)<=i/\i<n:=by
 unfold fG at h
 by_cases h0:0<=i
 ·rw [zx h0] at h
  by_cases h1:i<n
  ·rw [zx h1] at h
   have e:i.toNat=j:=Option.some.inj h
   exact ⟨by rw [seqIndex_of h0 h1,e],by omega,by omega,h1⟩
  ·rw [zH h1] at h;cases h
 ·rw [zH h0] at h
  by_cases h1 : -(n:Int)<=i
  ·rw [zx h1] at h
   have e:(i+n).toNat=j:=Option.some.inj h
   exact ⟨by rw [seqIndex_neg (by omega) h1,e],by omega,h1,by omega⟩
  ·rw [zH h1] at h;cases h
def bt {α:Type}{xs:List α}{i:Int}{v:α}(h:cu xs i=some v):∃j,seqIndex? i xs.length=some j/\xs[j]?=some v/\j<xs.length /\ -(xs.length:Int)<=i/\i<xs.length:=by
 unfold cu at h
 cases e:fG xs.length i with
 | none=>rw [e] at h;cases h
 | some j =>
  rw [e] at h
  obtain ⟨h1,h2,h3,h4⟩:=KY e
  exact ⟨j,h1,h,h2,h3,h4⟩
theorem fZ {α:Type}(xs:List α) (v:α):cu (xs++[v]) (-1)=some v:=by
 have hl:(xs++[v]).length=xs.length+1:=by simp
 have e:fG (xs++[v]).length (-1)=some xs.length:=by
  unfold fG
  rw [hl,zH (by decide),zx (by omega)]
  congr 1
  omega
 unfold cu
 rw [e]
 show (xs++[v])[xs.length]?=some v
 simp
def fH (b:Expr):Prop:=∀o i,subscripted b false o i=operate [o,i] (getItem o i)
def fI (X:Cx) (r:R2):Prop :=
 ∀(value slice:Expr) (pins:Ac) (s:Shared) (U:St) (H:Hp) (x y:V) (v u:Value) (Q:VK),Inv X pins U H s->RelV x v->RelV y u->r x y H Q ->
  subscripted slice false v u=operate [v,u] (getItem v u)->wpAny (model X.prog X.w) X.A (subscriptTail value slice v u) (EP X pins U Q) X.xe s
def B9 (X:Cx) (id:String) (r:V->List V->Hp->VK->Prop):Prop :=
 ∀(pins:Ac) (s:Shared) (U:St) (H:Hp) (x:V) (xs:List V) (v:Value) (us:Af) (Q:VK),Inv X pins U H s->RelV x v->Vals xs us->r x xs H Q ->
  wpAny (model X.prog X.w) X.A (call (.builtin id) (v::us)) (EP X pins U Q) X.xe s
section
variable {X:Cx}{a b:Expr}{ta tb:TE}{pos:Pos}
def fI.or {r r':R2}(h:fI X r) (h':fI X r'):fI X (λx y H Q=>r x y H Q\/r' x y H Q):=by
 intro value slice pins s U H x y v u Q I rx ry q hs
 rcases q with q|q
 ·exact h value slice pins s U H x y v u Q I rx ry q hs
 ·exact h' value slice pins s U H x y v u Q I rx ry q hs
def B_ {r:R2}(hr:fI X r) (ha:PE X a ta) (hb:PE X b tb) (hs:fH b):PE X (.Subscript a b pos) (oY r ta tb):=by
 intro pins s U H Q I h
 exact Subscript_ (oZ ha hb I h λv u s2 x y H2 I2 rx ry q=>hr a b pins s2 U H2 x y v u Q I2 rx ry q (hs _ _))
def Ca (K:PySem.W.Frag):R2:=λx y H Q=>∃p xs i v,x=.ref p/\y=.int i/\a6 K H p xs/\cu xs i=some v/\Q v H
def Cb (K:PySem.W.Frag):R2:=λx y H Q=>∃p xs i v,x=.ref p/\y=.int i/\a9 K H p xs/\cu xs i=some v/\Q v H
def Cc:R2:=λx y H Q=>∃z i c,x=.str z/\y=.int i/\z.length<=sizeLine/\cu z.cps.toList i=some c/\Q (.str ⟨#[c]⟩) H
theorem KZ:fI X (Ca X.K):=by
 intro value slice pins s U H x y v u Q I rx ry h hs
 obtain ⟨p,xs,i,z,rfl,rfl,hq,he,q⟩:=h
 cases rx
 obtain ⟨t,rfl⟩:=ry
 obtain ⟨its,r,pl,hz⟩:=I.list hq
 obtain ⟨j,h1,h2,h3,h4,h5⟩:=bt he
 obtain ⟨w,ew,dn⟩:=r.get h2
 have hl:=r.length
 have hn:=rG
 have fin:EP X pins U Q w s:=⟨z,H,I,dn,q⟩
 by_cases h0:0<=i
 ·have hj:i.toNat=j:=by
   rw [seqIndex_of h0 h5] at h1
   exact Option.some.inj h1
  exact item_listR pl.isList h0 (by omega) (by rw [hj];simpa using ew) fin hs
 ·have hj:(i+(its.toArray.size:Int)).toNat=j:=by
   rw [seqIndex_neg (by omega) h4] at h1
   rw [yQ,<-hl]
   exact Option.some.inj h1
  exact subscriptTail_builtinR (x:=w) pl.isList.typeIs slot_list_getitem.lookup
   (wpAny_getItem_list_neg (Q:=λr s'=>r=w/\EP X pins U Q r s') pl.isList (by omega) (by rw [yQ]<;>omega) (by omega) (by rw [hj];simpa using ew) ⟨rfl,fin⟩) hs
theorem K0:fI X (Cb X.K):=by
 intro value slice pins s U H x y v u Q I rx ry h hs
 obtain ⟨p,xs,i,z,rfl,rfl,hq,he,q⟩:=h
 cases rx
 obtain ⟨t,rfl⟩:=ry
 obtain ⟨its,r,pl,hz⟩:=I.tuple hq
 obtain ⟨j,h1,h2,h3,h4,h5⟩:=bt he
 obtain ⟨w,ew,dn⟩:=r.get h2
 have hl:=r.length
 have hn:=rG
 have fin:EP X pins U Q w s:=⟨z,H,I,dn,q⟩
 exact subscriptTail_builtinR (x:=w) pl.typeIs slot_tuple_getitem.lookup
  (getItem_tuple (j:=j) (Q:=λr s'=>r=w/\EP X pins U Q r s') pl (by omega) (by omega) (by rw [yQ,<-hl];exact h1) (by simpa using ew) ⟨rfl,fin⟩) hs
theorem K1:fI X Cc:=by
 intro value slice pins s U H x y v u Q I rx ry h hs
 obtain ⟨z,i,c,rfl,rfl,hz,he,q⟩:=h
 obtain ⟨t,rfl⟩:=rx
 obtain ⟨t',rfl⟩:=ry
 obtain ⟨j,h1,h2,h3,h4,h5⟩:=bt he
 have hl:z.cps.toList.length=z.length:=by simp [Str.length]
 rw [hl] at h1 h4 h5
 have hn:=rG
 exact tail_any (typeIs_str s z t) slot_str_getitem.lookup (getItem_str (c:=c) (by
  have e1:decide (i < -(2 ^ 63:Int))=false:=jr (by omega)
  have e2:decide (i>=2 ^ 63)=false:=jr (by omega)
  rw [e1,e2,Bool.or_false]) (by rw [h1];simpa using h2) ⟨.str ⟨#[c]⟩,H,I.tok _,⟨_,rfl⟩,q⟩) hs
def K2 (K:PySem.W.Frag):R2:=λx y H Q=>Ca K x y H Q\/Cb K x y H Q\/Cc x y H Q
def K3:fI X (K2 X.K):=KZ.or (K0.or K1)
def Inv.lst {pins:Ac}{U:St}{H:Hp}{s:Shared}{p:Addr}{xs:List V}(I:Inv X pins U H s) (h:H p=some (.lst xs)) :
  ∃(its:Af) (n:Nat),Vals xs its/\s.heap.get? p=some { cls:=.type "list", data:=.seq its.toArray n }/\xs.length<=sizeLine:=by
 obtain ⟨z,its,n,r,e⟩:=I.hok p _ h
 exact ⟨its,n,r,e,z⟩
theorem K4 (lo hi:Option Int) (n:Nat):(sliceBounds lo hi none n).1=((HT.sIx n 0 lo:Nat):Int)/\(sliceBounds lo hi none n).2.1=((HT.sIx n n hi:Nat):Int)/\(sliceBounds lo hi none n).2.2=1:=by
 refine ⟨?_,?_,rfl⟩
 ·cases lo with
  | none=>simp [sliceBounds,HT.sIx]
  | some i =>
   simp only [sliceBounds,HT.sIx,Option.getD_none,show (1:Int)>0 by decide,if_true]
   by_cases h:i<0
   ·simp only [h,if_true]<;>omega
   ·simp only [h,if_false]<;>omega
 ·cases hi with
  | none=>simp [sliceBounds,HT.sIx]
  | some i =>
   simp only [sliceBounds,HT.sIx,Option.getD_none,show (1:Int)>0 by decide,if_true]
   by_cases h:i<0
   ·simp only [h,if_true]<;>omega
   ·simp only [h,if_false]<;>omega
def K5 (its:Af) (lo hi:Option Int):slicePick its.toArray lo hi none=((its.drop (HT.sIx its.length 0 lo)).take (HT.sIx its.length its.length hi-HT.sIx its.length 0 lo)).toArray:=by
 obtain ⟨h1,h2,h3⟩:=K4 lo hi its.toArray.size
 unfold slicePick
 rw [h1,h2,h3]
 simp only [sliceRange_one,pick_run,yQ]<;>rfl
def K6 (K:PySem.W.Frag):V->Option Int->Option Int->Hp->VK->Prop:=λx lo hi H Q=>∃a xs,x=.ref a/\a6 K H a xs/\∀p,H p=none->Q (.ref p) (upd H p (.lst (gj xs lo hi)))
theorem K7:iw X (K6 X.K):=by
 intro pins s U H x v vl vu lo hi sl Q I rx hs pl pu h
 obtain ⟨a,xs,rfl,hx,q⟩:=h
 cases rx
 obtain ⟨its,r,ht,hz⟩:=I.list hx
 have hlen:=r.length
 refine ⟨"list", _,slot_list_getitem.lookup,ht.isList.typeIs,?_⟩
 refine wpAny_getItem_list_slice ht.isList hs pl pu .none (by simp) ?_ (by rw [yQ]<;>omega)
 rw [K5,<-hlen]
 refine ⟨.ref s.heap.objs.size,_,I.laid (t':=s.toks) (o:=.lst (gj xs lo hi)) (λb ob q=>yk _ q) (ye _) ?_,rfl,q _ (I.hok.fresh (ye _))⟩
 exact ⟨y4 (B8 xs lo hi) hz,_,0,(r.drop (HT.sIx xs.length 0 lo)).take (HT.sIx xs.length xs.length hi-HT.sIx xs.length 0 lo),yY _ rfl⟩
def znt:ba X (compareOp .NotIn) (λx y H Q=>∃i j,x=.str i/\y=.str j/\Q (.bl (!(!(Builtin.Str.occurrences j i 0 j.length 1).isEmpty))) H):=by
 intro pins s U H x y v u Q I rx ry h
 obtain ⟨i,j,rfl,rfl,q⟩:=h
 obtain ⟨t,rfl⟩:=rx
 obtain ⟨t',rfl⟩:=ry
 exact notIn_str ⟨.bl _,H,I,rfl,q⟩
def bY.or {f:Value}{r r':List V->Hp->VK->Prop}(h:bY X f r) (h':bY X f r'):bY X f (λxs H Q=>r xs H Q\/r' xs H Q):=by
 intro pins s U H xs us Q I rs q
 rcases q with q|q
 ·exact h pins s U H xs us Q I rs q
 ·exact h' pins s U H xs us Q I rs q
def K9:bY X (.type "list") (λxs H Q=>∃p ys,xs=[.ref p]/\(a6 X.K H p ys\/a9 X.K H p ys)/\∀l,H l=none->Q (.ref l) (upd H l (.lst ys))):=by
 intro pins s U H xs us Q I r h
 obtain ⟨p,ys,rfl,hq,q⟩:=h
 obtain ⟨u,rfl,rx⟩:=wQ r
 cases rx
 have fin:∀(its:Af),Vals ys its->ys.length<=sizeLine->∀(h':Heap) (c':Nat),(∀b o',s.heap.get? b=some o'->h'.get? b=some o') ->
   h'.get? s.heap.objs.size=some { cls:=.type "list", dict:=none,data:=.seq its.toArray c',slots:=#[] }->EP X pins U Q (.ref s.heap.objs.size) { s with heap:=h' }:=λits r' hz h' c' kp e =>
  ⟨.ref s.heap.objs.size,_,I.laid (t':=s.toks) kp (ye _) (show aZ X.prog X.w _ h' _ (.lst ys) from ⟨hz,its,c',r',e⟩),rfl,q _ (I.hok.fresh (ye _))⟩
 rcases hq with hq|hq
 ·obtain ⟨its,r',pl,hz⟩:=I.list hq
  have hlen:=r'.length
  obtain ⟨o,ho,hc,n,hd⟩:=pl.isList
  exact call_list_seq p (.inl rfl) ho hc hd (λh' c' kp e=>fin its r' hz h' c' kp e) (by simp only [yQ]<;>omega)
 ·obtain ⟨its,r',pl,hz⟩:=I.tuple hq
  have hlen:=r'.length
  obtain ⟨o,ho,hc,n,hd⟩:=pl
  exact call_list_seq p (.inr rfl) ho hc hd (λh' c' kp e=>fin its r' hz h' c' kp e) (by simp only [yQ]<;>omega)
def K_:bY X (.type "tuple") (λxs H Q=>∃p ys,xs=[.ref p]/\((a6 X.K H p ys/\∀l,H l=none->Q (.ref l) (upd H l (.tup ys)))\/(a9 X.K H p ys/\Q (.ref p) H))):=by
 intro pins s U H xs us Q I r h
 obtain ⟨p,ys,rfl,h⟩:=h
 obtain ⟨u,rfl,rx⟩:=wQ r
 cases rx
 rcases h with ⟨hq,q⟩|⟨hq,q⟩
 ·obtain ⟨its,r',pl,hz⟩:=I.list hq
  have hlen:=r'.length
  refine call_tuple_list pl.isList (λh' kp=>?_) (by simp only [yQ]<;>omega)
  have I1:Inv X pins U H { s with heap:=h' }:=I.kept (t':=s.toks) kp
  have I2:Inv X pins U (upd H h'.objs.size (.tup ys)) { s with heap:=h'.push { cls:=.type "tuple", data:=.seq its.toArray } } :=
   I1.laid (t':=s.toks) (λb o e=>yk _ e) (ye _) (show aZ X.prog X.w _ _ _ (.tup ys) from ⟨hz,its,r',IsTup.new _ _⟩)
  exact ⟨.ref h'.objs.size,_,I2,rfl,q _ (I1.hok.fresh (ye _))⟩
 ·obtain ⟨its,r',pl,hz⟩:=I.tuple hq
  exact call_tuple_same pl ⟨.ref p,H,I,rfl,q⟩
def Cd (K:PySem.W.Frag) (T:String) (x:V) (H:Hp):Prop:=match x with
 | .str _=>T = "str"
 | .int _=>T = "int"
 | .ref p=>(T = "list" /\ ∃xs,a6 K H p xs)\/(T = "tuple" /\ ∃o,K.lookup p=some o/\o.cls=.type "tuple" /\ o.dict=none) \/
   (T = "dict" /\ ((∃kvs,H p=some (.dK kvs))\/∃kvs,H p=some (.dT kvs)))\/(T = "set" /\ ∃S n,H p=some (.set S n))
 | _=>False
def Lb {pins:Ac}{U:St}{H:Hp}{s:Shared}{T:String}{x:V}{v:Value}(I:Inv X pins U H s) (r:RelV x v) (ty:Cd X.K T x H) :
  s.TypeIs v T/\∀a,v=.ref a->∃ob,s.heap.get? a=some ob/\ob.dict=none:=by
 cases x with
 | str z =>
  obtain ⟨t,rfl⟩:=r
  cases (show T = "str" from ty)
  exact ⟨typeIs_str s z t,λ_ e=>nomatch e⟩
 | int i =>
  obtain ⟨t,rfl⟩:=r
  cases (show T = "int" from ty)
  exact ⟨typeIs_int s i t,λ_ e=>nomatch e⟩
 | ref p =>
  cases r
  rcases ty with ⟨rfl,xs,hq⟩|⟨rfl,o,hk,hc,hd⟩|⟨rfl,hk⟩|⟨rfl,S,n,hk⟩
  ·obtain ⟨its,_,pl,_⟩:=I.list hq
   refine ⟨pl.isList.typeIs,λa e=>?_⟩
   cases e
   obtain ⟨o,n,e,c,hd,_⟩:=pl
   exact ⟨o,e,hd⟩
  ·refine ⟨⟨o,I.kIn p o hk,hc⟩,λa e=>?_⟩
   cases e
   exact ⟨o,I.kIn _ o hk,hd⟩
  ·have z:∃o,s.heap.get? p=some o/\o.ExactDict:=by
    rcases hk with ⟨kvs,hk⟩|⟨kvs,hk⟩
    ·obtain ⟨_,_,_,_,o,_,_,e,ex,_⟩:=I.hok p _ hk
     exact ⟨o,e,ex⟩
    ·obtain ⟨_,_,_,_,o,_,_,e,ex,_⟩:=I.hok p _ hk
     exact ⟨o,e,ex⟩
   obtain ⟨o,e,ex⟩:=z
   refine ⟨⟨o,e,ex.1⟩,λa e2=>?_⟩
   cases e2
   exact ⟨o,e,ex.2.1⟩
  ·obtain ⟨o,_,_,_,e,ex,_⟩:=I.hok p _ hk
   refine ⟨⟨o,e,ex.1⟩,λa e2=>?_⟩
   cases e2
   exact ⟨o,e,ex.2.1⟩
 | _=>exact ty.elim
def Lc (K:PySem.W.Frag) (T:String) (r:V->List V->Hp->VK->Prop) (to:TE) (t:TA):TE:=λU H Q=>to U H λx H1=>Cd K T x H1/\t U H1 λxs H2=>r x xs H2 Q
variable {o e:Expr}{es:List Expr}{to:TE}{t:TA}{name:Str}{apos a_:Pos}{T id:String}{r:V->List V->Hp->VK->Prop}
def vd (pa:PlainAttrs T) (slot:Slot T name id) (nr:typeOf (.builtin id)=pure (.type "method_descriptor")) (hm:B9 X id r) (ho:PE X o to) (ha:PA X (e::es) t)
  (dF:attributeBase o name X.env (eval o X.env)=eval o X.env:=by rfl)
  (gy:((backTo a_ (starEach (e::es) X.env)).all (λx=>!x.1)&&(backToKw a_ (keywordEach [] X.env)).all (λx=>x.1.isSome)
   && decide ((e::es).length+([]:List Keyword).length+(if ([]:List Keyword).isEmpty then 0 else 1)<30))=true:=by rfl)
  (fA:(apos.endLine==a_.line)=true:=by rfl) (hs:starEach (e::es) X.env=(false,eval e X.env)::starEach es X.env:=by rfl) (rQ:(backTo a_ (starEach es X.env)).any (·.1)=false:=by rfl) :
  PE X (.Call (.Attribute o name apos) (e::es) [] a_) (Lc X.K T r to t):=by
 intro pins s U H Q I h
 refine wpAny_Call_method_late dF gy fA rfl (aV (ho pins s U H _ I h) λv s1 ⟨x,H1,I1,r1,ty,q1⟩=>?_)
 obtain ⟨h1,h2⟩:=Lb I1 r1 ty
 refine ⟨T,id,pa,slot,nr,h1,h2,?_⟩
 have hA:=ha a_ pins s1 U H1 _ I1 q1
 rw [hs] at hA ⊢
 refine Calls.callWith_builtin (by show (false||(backTo a_ (starEach es X.env)).any (·.1))=false;rw [rQ]<;>rfl) (Calls.evalArgs_plain ?_)
 exact aV hA λus s2 ⟨vs,H2,I2,r2,q2⟩=>hm pins s2 U H2 x vs v us Q I2 r1 r2 q2
end
def Ce (X:Cx) (id:String) (r:V->List V->Hp->VK->Prop):Prop :=
 ∀(pins:Ac) (s:Shared) (U:St) (H:Hp) (x:V) (xs:List V) (v:Value) (us:Af) (Q:VK),Inv X pins U H s->RelV x v->Vals xs us->r x xs H Q ->
  wpAny (model X.prog X.w) X.A (call (.builtin id) (v::us)) (EP X pins U Q) X.xe s
def Vals.one:∀{x:V}{us:Af},Vals [x] us->∃u,us=[u]/\RelV x u
 | _,_,.cons r .nil=>⟨_,rfl,r⟩
def Vals.reverse {xs:List V}{us:Af}(h:Vals xs us):Vals xs.reverse us.reverse:=by
 induction h with
 | nil=>exact .nil
 | cons r t ih=>rw [List.reverse_cons,List.reverse_cons];exact Vals.append ih (.cons r .nil)
section
variable {X:Cx}{pins:Ac}{U:St}{H:Hp}{s:Shared}{l b:Addr}{xs ys zs:List V}
def Inv.lset {its its':Af}{n:Nat}{f:Array Value->Array Value}{t':Nat}(I:Inv X pins U H s) (hH:H l=some (.lst xs))
  (e:s.heap.get? l=some { cls:=.type "list", data:=.seq its.toArray n }) (hf:f its.toArray=its'.toArray) (hv:Vals ys its') (hz:ys.length<=sizeLine) :
  Inv X pins U (upd H l (.lst ys)) { s with heap:=s.heap.update l (Obj.mapSeq f),toks:=t' }:=by
 have q:=PySem.IsL.update e f
 rw [hf] at q
 refine I.write (x:=l) (e:=l) (by rw [hH];exact trivial) (.inl rfl) (λb' u hb hu=>(wK s.heap (Obj.mapSeq f) (yC hb)).trans hu) ⟨_,q⟩ ?_
 exact ⟨hz,its',_,hv,q⟩
def Inv.lnew {its:Af}{t':Nat}(I:Inv X pins U H s) (hv:Vals ys its) (hz:ys.length<=sizeLine) :
  Inv X pins U (upd H s.heap.objs.size (.lst ys)) { s with heap:=s.heap.push { cls:=.type "list", data:=.seq its.toArray },toks:=t' } :=
 I.laid (λ_ _ q=>yk _ q) (ye _) ⟨hz,its,0,hv,yY _ rfl⟩
def Inv.fresh (I:Inv X pins U H s):H s.heap.objs.size=none:=I.hok.fresh (ye _)
def Inv.lstM (I:Inv X pins U H s) (hH:H l=some (.lst xs)):xs.length<=sizeLine/\∃(its:Af) (n:Nat),Vals xs its/\xs.length=its.length/\s.heap.get? l=some { cls:=.type "list", data:=.seq its.toArray n }:=by
 obtain ⟨z,its,n,r,e⟩:=I.hok l _ hH
 exact ⟨z,its,n,r,r.length,e⟩
theorem nu {n:Nat}(h:n<=sizeLine):Builtin.List.listTooLong n=false:=by
 unfold Builtin.List.listTooLong
 exact jr (by omega)
end
section
variable {X:Cx}
def Ld:V->List V->Hp->VK->Prop:=λx vs H Q=>∃l xs y,x=.ref l/\vs=[y]/\H l=some (.lst xs)/\xs.length<sizeLine/\Q .non (upd H l (.lst (xs++[y])))
theorem znz:Ce X "list.append" Ld:=by
 intro pins s U H x vs v us Q I rx rv h
 obtain ⟨l,xs,y,rfl,rfl,hH,hz,q⟩:=h
 cases rx
 obtain ⟨u,rfl,ru⟩:=rv.one
 obtain ⟨z,its,n,r,hl,e⟩:=I.lstM hH
 refine call_meets F.slot_list_append ⟨_,e,rfl⟩ F.entry_list_append (F.args_list_append_2 _ _) (PySem.list_append l its.toArray n u (by rw [yQ];omega)) ⟨e,?_⟩
 refine ⟨.non,_,I.lset (its':=its++[u]) hH e (by simp) (r.append (.cons ru .nil)) ?_,rfl,q⟩
 rw [wo,List.length_singleton]
 omega
def Le:V->List V->Hp->VK->Prop:=λx vs H Q=>∃l b xs zs,x=.ref l/\vs=[.ref b]/\H l=some (.lst xs)/\H b=some (.lst zs)/\xs.length+zs.length<=sizeLine/\Q .non (upd H l (.lst (xs++zs)))
theorem znB:Ce X "list.extend" Le:=by
 intro pins s U H x vs v us Q I rx rv h
 obtain ⟨l,b,xs,zs,rfl,rfl,hH,hB,hz,q⟩:=h
 cases rx
 obtain ⟨u,rfl,ru⟩:=rv.one
 cases ru
 obtain ⟨z,its,n,r,hl,e⟩:=I.lstM hH
 obtain ⟨z2,aU,n2,r2,hl2,e2⟩:=I.lstM hB
 have hsz:its.toArray.size+aU.toArray.size<=sizeLine:=by rw [yQ,yQ];omega
 have ve:¬(!its.toArray.isEmpty&&Builtin.List.listTooLong (its.toArray.size+aU.toArray.size))=true:=by
  rw [nu hsz,Bool.and_false]
  exact Bool.false_ne_true
 refine call_meets F.slot_list_extend ⟨_,e,rfl⟩ F.entry_list_extend (F.args_list_extend_2 _ _)
  (AutoSeq1.list_extend_list_list_0 l its.toArray n b aU.toArray n2 ve (by rw [yQ];omega) (by omega)) ⟨e,e2,?_⟩
 refine ⟨.non,_,I.lset (its':=its++aU) hH e (by simp) (r.append r2) ?_,rfl,q⟩
 rw [wo]
 omega
def Lf:R2:=λx y H Q=>∃l b xs zs,x=.ref l/\y=.ref b/\H l=some (.lst xs)/\H b=some (.lst zs)/\xs.length+zs.length<=sizeLine/\∀p,H p=none->Q (.ref p) (upd H p (.lst (xs++zs)))
def Lg:ba X (binaryOp .Add) Lf:=by
 intro pins s U H x y v u Q I rx ry h
 obtain ⟨l,b,xs,zs,rfl,rfl,hH,hB,hz,q⟩:=h
 cases rx
 cases ry
 obtain ⟨z,its,n,r,hl,e⟩:=I.lstM hH
 obtain ⟨z2,aU,n2,r2,hl2,e2⟩:=I.lstM hB
 refine PySem.P.add_list e e2 ?_ (by rw [yQ,yQ];omega)
 have ea:its.toArray++aU.toArray=(its++aU).toArray:=by simp
 rw [ea]
 exact ⟨.ref _,_,I.lnew (t':=s.toks) (r.append r2) (by rw [wo];omega),rfl,q _ I.fresh⟩
end
section
variable {prog:Program}{w:World}{A:Around}{E:Aa}{s:Shared}
end
section
variable {X:Cx}
end
end L2
namespace Att
open PySem PySem.W PySem.Calls PyProof.Rows
def Lh {P:Params}{h:Heap}:∀(ns:List Int) (vs:Af),WellAll P h vs (ns.map WData.int)->IntsAre vs ns:=by
 intro ns
 induction ns with
 | nil =>
  intro vs w
  rw [List.map_nil] at w
  cases w
  exact .nil
 | cons n ns ih =>
  intro vs w
  rw [yJ] at w
  cases w with
  | cons a b =>
   cases a
   exact .cons _ _ (ih _ b)
theorem Li {l:OpenLaw}{n:Nat}(hn:l.most=some n) {P:Params}{h:Heap}{args:List WData}{vals:Af}
  (mW:l.row.toRowW.claim.pre args=true) (hwl:WellAll P h vals args) :
  ∃a vs ns,vals=[Value.ref a]/\args=[WData.list (ns.map WData.int)]/\h.get? a=some { cls:=.type "list", data:=.seq vs.toArray }/\IntsAre vs ns/\ns.length<=n:=by
 have Lj:WShape.hasAll [] args [.list .int]=true:=(pre_splitW mW).1
 have hc:l.pre.holds [] { args:=args }=true:=(pre_splitW mW).2
 obtain ⟨d,r,rfl,h1,h2⟩:=hasAllW_cons Lj
 obtain rfl:=hasAllW_nil h2
 obtain ⟨xs,rfl,h3⟩:=hasW_list h1
 obtain ⟨ns,rfl⟩:=items_int h3
 have hlen:ns.length<=n:=by
  unfold OpenLaw.pre at hc
  have h4:(WTm.not (.lt (.lit (.int (n:Int))) (.len (.arg 0)))).holds [] { args:=[.list (ns.map .int)] }=true:=by
   have h4:=(holds_andW hc).1
   rw [hn] at h4
   exact h4
  have h5:=condW_of h4 (w_not (w_lt w_lit (w_len_list (w_arg rfl))))
  rw [jk] at h5
  refine Nat.le_of_not_lt λq=>?_
  have q':(n:Int)<((ns.length:Nat):Int):=by omega
  first
   | (rw [jJ q'] at h5;exact absurd h5 (by decide))
   | (simp at h5;omega)
 cases hwl with
 | cons w1 w2 =>
  cases w2
  cases w1 with
  | list ho gz=>exact ⟨_,_,ns,rfl,rfl,ho,Lh ns _ gz,hlen⟩
def Lk (l:OpenLaw) (args:List WData):l.row.toRowW.claim.post args (.bool true) args=true :=
 postW_of (r:=l.row.toRowW) (X:=(true==true))
  (show WShape.has [] (.bool true) .bool=true by first|rfl|decide|simp [WShape.has,WShape.arms,WShape.armsAll])
  (show (WTm.eq .res (.lit (.bool true))).value [] { args:=args,res:=some (.bool true),after:=args }=some (.bool (true==true)) from w_eq_bool (w_res rfl) w_lit) rfl
def attach_call {l:OpenLaw}{n:Nat}{q:Program}{loose:Ad}{XP:(Ab)->Heap->Prop}{YP:World->Heap->Prop}{d:DefRec}
  (hn:l.most=some n) (pd:d.params.defaults=[])
  (call:∀(w:World) (s₀ al:Shared) (mg mb:Ab) (fa:Addr) (o:Obj) (pm cd doc:Value) (a:Addr) (vs:Af) (ns:List Int),
   Ground q loose [] XP w s₀ mg mb al.heap->YP w al.heap ->
   al.heap.get? fa=some o->o.data=.func (docDef d.name d.params d.body d.scope pm cd doc)->al.heap.CodeRec cd d.name->mg d.name=some (.ref fa) ->
   al.heap.get? a=some { cls:=.type "list", data:=.seq vs.toArray }->IntsAre vs ns->ns.length<=n->al.gens=#[] ->
   codeAny (model l.prog w) callerA (.call (.ref fa) ⟨[.ref a],[]⟩) (λr s'=>r=.ok (.ret (.bool true))/\OldK al.heap s'.heap/\s'.os=al.os/\AllBare s'.gens) al) :
  WalkO q loose XP YP l.row.toRowW d [] (λf vs=>PySem.call f vs):=by
 intro w s₀ al mg mb G Y fa o pm cd doc dV kV ho hd fX hD hmg hg args vals as mW hlay hrd hwl hlo
 obtain rfl:dV=.none:=Dflts.none hD pd
 obtain rfl:kV=.none:=Dflts.noKw hD
 obtain ⟨a,vs,ns,rfl,rfl,pe,hints,hlen⟩:=Li hn mW hwl
 refine enter_call (codeAny_mono (call w s₀ al mg mb fa o pm cd doc a vs ns G Y ho (fd_plain hd) fX hmg pe hints hlen hg) λr s' hq=>?_)
 obtain ⟨rfl,h2,h3,h4⟩:=hq
 exact ⟨.inl ⟨.bool true,.bool true,[],rfl,λ_=>rfl,.bool true,Lk l _,λ_=>⟨List.Pairwise.nil,λ_ hm=>(nomatch hm)⟩⟩,h2,h3,h4⟩
section
variable {prog:Program}{w:World}{A:Around}{E:Aa}{s:Shared}{K:Frag}
end
end Att
namespace L2
open PySem PySem.Spec PyProof.Rows
theorem Cf:∀{vs:Af}{ns:List Int},IntsAre vs ns->Vals (ns.map V.int) vs
 | _,_,.nil=>.nil
 | _,_,.cons n t h=>.cons ⟨t,rfl⟩ (Cf h)
def Only (H:Hp):Prop:=∀b,H b=none\/∃o xs,H b=some (.frz o (.lst xs))
def Ll {P:Program}{w:World}{K:PySem.W.Frag}{mg mb:Ab}{CX:dY}{k:Nat}{fa a:Addr}{fd:FuncData}{x:Str}{sp:Sp}{al:Shared}{vs:Af}{ns:List Int}
  (KX:K.In al.heap) (Cg:al.heap.Ns mainGlobals mg) (hb:al.heap.Ns builtinsNs mb) (pf:∀x:Str,x ≠ "__name__" -> mb x=bootBuiltins x) (uJ:al.heap.NoLimit) (hg:al.gens=#[])
  (ha:al.heap.get? a=some { cls:=.type "list", data:=.seq vs.toArray }) (hi:IntsAre vs ns) (hl:ns.length<=sizeLine) (hr:aY k callerA)
  (F:∀base:Heap,K.In base->base.Ns mainGlobals mg->br P w K mg base CX k fa fd [x] sp) (vf:∀(s:Shared) (u:Value),BindsTo s fd ⟨[u],[]⟩ [(x,u)])
  (gW:∀H:Hp,Only H->a6 K H a (ns.map V.int)->sp [.ref a] H (λv _=>v=.bl true) λ_ _ _=>False)
  (vg:∀H e s',CX [] H al (λ_ _ _=>False) e s'->False) :
  codeAny (model P w) callerA (.call (.ref fa) ⟨[.ref a],[]⟩) (λr s'=>r=.ok (.ret (.bool true))/\OldK al.heap s'.heap/\s'.os=al.os/\AllBare s'.gens) al:=by
 have rv:=Cf hi
 have Ci:=hi.length
 have core:∀H:Hp,Only H->a6 K H a (ns.map V.int)->bZ P w H al.heap->(∀b,H b≠none->b=a)->(H a≠none->K.lookup a=none) ->
   codeAny (model P w) callerA (.call (.ref fa) ⟨[.ref a],[]⟩) (λr s'=>r=.ok (.ret (.bool true))/\OldK al.heap s'.heap/\s'.os=al.os/\AllBare s'.gens) al:=by
  intro H hO hS hok hA hK
  have kh:∀{b:Addr} {o:Obj},al.heap.get? b=some o->H b=none->(fF al.heap H).get? b=some o:=λe n=>Ir e n
  have o9:∀{b:Addr} {o:Obj} {es:Array DictEntry} {ep:Nat},al.heap.get? b=some o->o.data=.dict es ep->H b=none:=λ{b o es ep} e d=>by
   cases q:H b with
   | none=>rfl
   | some u =>
    have e':b=a:=hA b (by rw [q];simp)
    subst e'
    rw [ha] at e;cases e
    have d':Data.seq vs.toArray _=Data.dict es ep:=d
    cases d'
  have rR:∀{b:Addr} {m:Ab},al.heap.Ns b m->(fF al.heap H).Ns b m:=λ{b m} ⟨o,es,ep,e,d,r⟩=>⟨o,es,ep,kh e (o9 e d),d,r⟩
  have Cj:K.In (fF al.heap H):=λb o e=>kh (KX b o e) (by
   cases q:H b with
   | none=>rfl
   | some u =>
    have e':b=a:=hA b (by rw [q];simp)
    subst e'
    rw [hK (by rw [q];simp)] at e;cases e)
  have hM:Mod K mg (fF al.heap H):=⟨Cj,rR Cg,⟨mb,rR hb,pf⟩,let ⟨mc,h1,h2⟩:=uJ;⟨mc,rR h1,h2⟩⟩
  have e0:fg P w K mg (fF al.heap H) callerA [] al H:=⟨rfl,hM,λb o e=>Iu e,Nat.le_of_eq (Iq _ _),trivial,λb hb=>absurd (show b∈([]:Ae) from hb) (by simp),hok,.of_eq hg⟩
  refine codeAny_mono ((F _ Cj (rR Cg)).run callerA [] al H ⟨[.ref a],[]⟩ [.ref a] [.ref a] _ _ hr e0 (vf al (.ref a)) (.cons rfl .nil) (gW H hO hS)) λr s' h=>?_
  cases r with
  | error e=>exact (vg H e s' h).elim
  | ok fl =>
   cases fl with
   | next=>exact h.elim
   | brk=>exact h.elim
   | cont=>exact h.elim
   | ret u =>
    obtain ⟨v,H',os,bare,un,Ck,r',q⟩:=h
    have q':v=.bl true:=q
    subst q'
    obtain rfl:u=Value.bool true:=r'
    refine ⟨rfl,OldK.of_keep λb o e=>?_,os,bare⟩
    cases q:H b with
    | none=>exact un.keep b o e q (by intro z;exact absurd (show b∈([]:Ae) from z) (by simp)) (by simp)
    | some u =>
     rcases hO b with z|⟨ob,xs,z⟩
     ·rw [q] at z;cases z
     ·have z2:=un.frzs b ob _ z
      obtain ⟨e1,_⟩:=hok b _ z
      obtain ⟨e2,_⟩:=Ck b _ z2
      rw [e] at e1;cases e1
      exact e2
 cases hk:K.lookup a with
 | some o =>
  have e:=KX a o hk
  rw [ha] at e
  cases e
  refine core (λ_=>none) (λ_=>.inl rfl) (.inr ⟨_,vs.toArray,_,hk,rfl,rfl,rfl,by rw [yQ,Ci];exact hl,by simpa using rv⟩) (λb u z=>by have z':(none:Option HO)=some u:=z;cases z') (λb z=>absurd rfl z) λz=>absurd rfl z
 | none =>
  refine core (λb=>if b=a then some (.frz { cls:=.type "list", data:=.seq vs.toArray } (.lst (ns.map V.int))) else none) (λb=>?_) (.inl (.inr ⟨{ cls:=.type "list", data:=.seq vs.toArray },zx rfl⟩)) (λb u z=>?_) (λb z=>?_) λ_=>hk
  ·by_cases hb:b=a
   ·exact .inr ⟨_,_,zx hb⟩
   ·exact .inl (zH hb)
  ·by_cases hb:b=a
   ·have z':=(zx hb).symm.trans z
    cases z'
    subst hb
    exact ⟨ha,by rw [jk];exact hl,vs,_,rv,ha⟩
   ·have z':=(zH hb).symm.trans z
    cases z'
  ·by_cases hb:b=a
   ·exact hb
   ·exact absurd (zH hb) z
abbrev KOf {K:PySem.W.Frag}{h:Heap}(_:K.In h):PySem.W.Frag:=K
def znI {l:PySem.W.OpenLaw}{n k:Nat}{q:Program}{loose:Ad}{XP:(Ab)->Heap->Prop}{YP:World->Heap->Prop}{d:DefRec}{K:Params->PySem.W.Frag}{CX:World->dY}{sp:World->Sp}{x:Str}
  (hn:l.most=some n) (gU:n<=sizeLine) (pd:d.params.defaults=[]) (hr:aY k callerA)
  (hY:∀(w:World) (h:Heap),YP w h->(K w.params).In h)
  (F:∀(w:World) (mg:Ab) (fa:Addr) (h:Heap),(K w.params).In h->h.Ns mainGlobals mg->mg d.name=some (.ref fa) ->
   ∃fd:FuncData,(∀(s:Shared) (u:Value),BindsTo s fd ⟨[u],[]⟩ [(x,u)]) /\
    ∀base:Heap,(K w.params).In base->base.Ns mainGlobals mg->br l.prog w (K w.params) mg base (CX w) k fa fd [x] (sp w))
  (gW:∀(w:World) (H:Hp) (a:Addr) (ns:List Int),ns.length<=n->Only H->a6 (K w.params) H a (ns.map V.int)->sp w [.ref a] H (λv _=>v=.bl true) λ_ _ _=>False)
  (vg:∀(w:World) (H:Hp) (s:Shared) (e:Value) (s':Shared),CX w [] H s (λ_ _ _=>False) e s'->False) :
  PySem.W.WalkO q loose XP YP l.row.toRowW d [] (λf vs=>PySem.call f vs):=by
 refine Att.attach_call hn pd λw s₀ al mg mb fa o pm cd doc a vs ns G Y ho hd fX hmg pe hints hlen hg=>?_
 have KX:=hY w _ Y
 obtain ⟨fd,hb,hF⟩:=F w mg fa _ KX G.T.g hmg
 exact Ll KX G.T.g G.T.b G.T.builtins G.T.nolimit hg pe hints (y4 hlen gU) hr hF hb (λH hO hS=>gW w H a ns hlen hO hS) λH e s'=>vg w H al e s'
def inClass (s:Stmt) (j:Nat):Stmt:=match s with
 | .ClassDef _ _ _ body _ _ _ _ _ _ _=>body.getD j (.Pass ⟨0,0,0,0⟩)
 | _=>.Pass ⟨0,0,0,0⟩
def j6 (s:Stmt):Arguments:=match s with
 | .FunctionDef _ a _ _ _ _ _ _ _ _=>a
 | _=>{ posonlyargs:=[],args:=[],vararg:=none,kwonlyargs:=[],kw_defaults:=[],kwarg:=none,defaults:=[] }
def jo (s:Stmt):List Stmt:=match s with
 | .FunctionDef _ _ b _ _ _ _ _ _ _=>b
 | _=>[]
def zF (s:Stmt):Scope:=match s with
 | .FunctionDef _ _ _ _ _ _ sc _ _ _=>sc
 | _=>{ kind:=.function,names:=[],isGenerator:=false,isCoroutine:=false }
abbrev Cm:dY:=λ_ _ _ _ _ _=>False
abbrev E0:XK:=λ_ _ _=>False
structure dZ (K:PySem.W.Frag) (x qual:Str) (st:Stmt) (f:Addr) (fd:FuncData):Prop where
 ex:∃(oc:Value) (od:Option Addr) (kV doc pm:Value) (an:Option Addr) (aX ct:Value) (fy:Array (Option Value)),
  fd=PySem.W.fnOf x qual (j6 st) (jo st) (zF st) .none kV doc pm an aX ct/\K.lookup f=some ⟨oc,od,.func fd,fy⟩/\PySem.W.codeIn K aX qual=true
 kp:PySem.W.keepIn K (.ref f)=true
section
variable {P:Program}{w:World}{K:PySem.W.Frag}{mg:Ab}{base:Heap}
def dZ.ok {x qual:Str}{st:Stmt}{f:Addr}{fd:FuncData}{N ps:Ad}{k:Nat}{sp:Sp}(F:dZ K x qual st f fd) (S:au N ps (zF st)) (len:∀vs H Q E,sp vs H Q E->vs.length=ps.length)
  (fz:∀(aX:Value) (A:Around) (outer:List Env) (s:Shared) (H:Hp) (vs:List V) (Q:VK) (E:XK),aY k (A.deeper (envOfC qual (zF st) s.heap.objs.size f aX))->sp vs H Q E ->
   ∃t,cy (dy Cm P w K mg base N qual (zF st) f aX A outer s H E).nox (jo st) t/\t { nx:=λ_ H'=>Q .non H',rt:=Q } (start N vs) H):br P w K mg base Cm (k+1) f fd ps sp:=by
 obtain ⟨oc,od,kV,doc,pm,an,aX,ct,fy,rfl,lk,fX⟩:=F.ex
 refine B0 lk fX S len λA outer s H vs Q E hr gW=>?_
 obtain ⟨t,h,q⟩:=fz aX A outer s H vs Q E hr gW
 exact ⟨t,h.nox,q⟩
def dZ.binds {x qual:Str}{st:Stmt}{f:Addr}{fd:FuncData}{ps:Ad}(F:dZ K x qual st f fd)
  (h:∀(kV doc pm:Value) (an:Option Addr) (aX ct:Value) (us:Af),us.length=ps.length->bindArgs (PySem.W.fnOf x qual (j6 st) (jo st) (zF st) .none kV doc pm an aX ct) ⟨us,[]⟩=pure (ps.zip us)):Binds K fd ps []:=by
 obtain ⟨oc,od,kV,doc,pm,an,aX,ct,fy,rfl,lk,fX⟩:=F.ex
 exact .all (h kV doc pm an aX ct)
def kj {x qual:Str}{st:Stmt}{f:Addr}{oc:Value}{od an:Option Addr}{fy:Array (Option Value)}{kV doc pm aX ct:Value}(l:K.lookup f=some ⟨oc,od,.func (PySem.W.fnOf x qual (j6 st) (jo st) (zF st) .none kV doc pm an aX ct),fy⟩)
  (c:PySem.W.codeIn K aX qual=true) (k:PySem.W.keepIn K (.ref f)=true):dZ K x qual st f (PySem.W.fnOf x qual (j6 st) (jo st) (zF st) .none kV doc pm an aX ct):=⟨⟨oc,od,kV,doc,pm,an,aX,ct,fy,rfl,l,c⟩,k⟩
end
section
variable {X:Cx}
end
def fh (H H':Hp):Prop:=∀b o,H b=some o->H' b=some o
def fh.refl (H:Hp):fh H H:=λ_ _ h=>h
def fh.trans {H H1 H2:Hp}(a:fh H H1) (b:fh H1 H2):fh H H2:=λc o h=>b c o (a c o h)
def fh.free {H H':Hp}(e:fh H H') {l:Addr}(h:H' l=Option.none):H l=Option.none:=by
 cases q:H l with
 | none=>rfl
 | some o =>
  rw [e l o q] at h
  cases h
def fh.seq {K:PySem.W.Frag}{H H':Hp}{a:Addr}{xs:List V}(e:fh H H') (h:a6 K H a xs):a6 K H' a xs:=by
 rcases h with (h|⟨o,h⟩)|h
 ·exact .inl (.inl (e _ _ h))
 ·exact .inl (.inr ⟨o,e _ _ h⟩)
 ·exact .inr h
end L2
set_option maxHeartbeats 4000000
namespace L2
open PySem PySem.Spec PyProof.Rows
theorem Cn {l z D b:Nat}(h1:l<z) (h2:z=D) (h3:D<=b) (h4:b=l):False:=by omega
theorem lK {b D C:Nat}(h1:b<D) (h2:C=D+1) (h3:b=C):False:=by omega
theorem Co {b e d:Nat}(h1:b<e) (h2:e<=d) (h3:d<=b):False:=by omega
theorem Cp {b D p:Nat}(h1:b<D) (h2:p=D) (h3:p=b):False:=by omega
theorem vh (env:Env):∀(l:List (Str×NameKind)) (acc:List (Str×Addr)),(∀p∈l,p.2=.free->∃c,env.cells.lookup p.1=some c) ->
  ∃cl,(forIn l acc (λ(x:Str×NameKind) (cs:List (Str×Addr))=>if (x.snd==NameKind.free)=true then do
            let a <-cellOf env x.fst
            pure (ForInStep.yield ((x.fst,a)::cs))
      else pure (ForInStep.yield cs)):Sem (List (Str×Addr)))=pure cl /\
   (∀y c,(y,c)∈cl->(y,c)∈acc\/(env.cells.lookup y=some c/\(y,NameKind.free)∈l))/\(∀p∈acc,p∈cl)/\(∀y,(y,NameKind.free)∈l->∃c,(y,c)∈cl)
 | [],acc,_=>⟨acc,rfl,λ_ _ h=>.inl h,λ_ h=>h,λ_ h=>nomatch h⟩
 | (n,k)::r,acc,gz=>by
  by_cases hk:k=.free
  ·subst hk
   obtain ⟨c,hc⟩:=gz (n,.free) jd rfl
   obtain ⟨cl,e,h1,h2,h3⟩:=vh env r ((n,c)::acc) λp hp=>gz p (jq _ hp)
   refine ⟨cl,?_,λy d hy=>?_,λp hp=>h2 p (jq _ hp),λy hy=>?_⟩
   ·rw [List.forIn_cons]
    simp only [beq_self_eq_true,if_true]
    have:cellOf env n=pure c:=by unfold cellOf;rw [hc]
    rw [this]
    exact e
   ·rcases h1 y d hy with q|q
    ·rcases yF.mp q with q|q
     ·cases q
      exact .inr ⟨hc,jd⟩
     ·exact .inl q
    ·exact .inr ⟨q.1,jq _ q.2⟩
   ·rcases yF.mp hy with q|q
    ·cases q
     exact ⟨c,h2 _ jd⟩
    ·exact h3 y q
  ·obtain ⟨cl,e,h1,h2,h3⟩:=vh env r acc λp hp=>gz p (jq _ hp)
   refine ⟨cl,?_,λy d hy=>?_,h2,λy hy=>?_⟩
   ·rw [List.forIn_cons]
    have:(k==NameKind.free)=false:=by simpa using hk
    simp only [this,Bool.false_eq_true,if_false]
    exact e
   ·rcases h1 y d hy with q|q
    ·exact .inl q
    ·exact .inr ⟨q.1,jq _ q.2⟩
   ·rcases yF.mp hy with q|q
    ·cases q
     exact absurd rfl hk
    ·exact h3 y q
theorem Cq {β:Type}{y:Str}:∀{l:List (Str×β)}{c:β},(y,c)∈l->∃d,l.lookup y=some d
 | (n,b)::r,c,h=>by
  rw [yO]
  cases e:y==n with
  | true=>exact ⟨b,rfl⟩
  | false =>
   rcases yF.mp h with q|q
   ·cases q
    simp at e
   ·exact Cq q
def Cr (env:Env) (scope:Scope) (gz:∀p∈scope.names,p.2=.free->∃c,env.cells.lookup p.1=some c) :
  ∃cl,closureFor scope env=pure cl/\(∀y c,cl.lookup y=some c->env.cells.lookup y=some c)/\(∀y,(y,NameKind.free)∈scope.names->∃c,cl.lookup y=some c):=by
 obtain ⟨cl,e,h1,_,h3⟩:=vh env scope.names [] gz
 refine ⟨cl,?_,λy c hy=>?_,λy hy=>?_⟩
 ·simp only [closureFor]
  rw [e]
  rfl
 ·rcases h1 y c (PySem.mem_of_lookup hy) with z|z
  ·cases z
  ·exact z.1
 ·obtain ⟨c,hc⟩:=h3 y hy
  exact Cq hc
structure di (sc scope:Scope) (x:Str):Prop where
 kind:scope.kind=.function
 ncell:∀y∈scope.names,y.2 ≠ .cell
 names:∀y∈scope.names,y.2=.local->scope.names.lookup y.1=some .local/\(y.1=x\/y.1 = ".0")
 hx:scope.names.lookup x=some .local
 free:∀y∈scope.names,y.2=.free->sc.names.lookup y.1=some .cell
def km (X:Cx) (M:Ad) (scope:Scope) (cl:List (Str×Addr)) (x:Str) (C:Addr) (af:Shared) (ah:Hp) (fp:Ae) (E:Aa):Cx :=
 { X with N:=x::M,s₀:=af,H₀:=ah,env:=compEnvC scope cl C X.env,outer:=X.stack,ex:=fp,fn:=λ_=>false,pn:=[],xe:=E }
def Hid (scope:Scope) (M N:Ad):Prop:=M.length=N.length/\∀p∈M.zip N,p.1=p.2\/p.1∉scope.names.map Prod.fst
def Hid.refl {scope:Scope}{N:Ad}:Hid scope N N:=⟨rfl,λp hp=>.inl (by
 obtain ⟨i,hi,e⟩:=rd hp
 rw [List.getElem_zip] at e
 rw [<-e])⟩
def Hid.get {scope:Scope}{M N:Ad}(h:Hid scope M N) {i:Nat}{y:Str}(e:M[i]?=some y):N[i]?=some y\/y∉scope.names.map Prod.fst:=by
 obtain ⟨hi,ei⟩:=yv.mp e
 have hj:i<N.length:=h.1▸hi
 have hm:(M[i],N[i])∈M.zip N:=ly (i:=i) (by rw [List.getElem?_zip_eq_some];exact ⟨yo hi,yo hj⟩)
 rcases h.2 _ hm with q|q
 ·exact .inl (by rw [yo hj,<-ei];exact congrArg some q.symm)
 ·exact .inr (by rw [<-ei];exact q)
def Cs (X:Cx) (scope:Scope) (cl:List (Str×Addr)) (x:Str) (C:Addr) (af:Shared) (ah:Hp) (fp:Ae) (E:Aa):Cx :=
 { X with N:=x::X.N,s₀:=af,H₀:=ah,env:=compEnvC scope cl C X.env,outer:=X.stack,ex:=fp,fn:=λ_=>false,pn:=[],xe:=E }
section
variable {X:Cx}{scope:Scope}{cl:List (Str×Addr)}{x:Str}
def ko {env:Env}{y:Str}{k:NameKind}(h:(relabel scope env).names.lookup y=some k):∃k0,(y,k0)∈scope.names/\((k0=.free/\env.kindOf y=some .cell/\k=.cell)\/(k=k0/\¬(k0=.free/\env.scope.kind=.function/\env.kindOf y=some .cell))):=by
 have hm:=PySem.mem_of_lookup h
 obtain ⟨⟨n,k0⟩,hn,e⟩:=jE.mp hm
 by_cases hc:(k0==NameKind.free&&env.scope.kind == .function&&env.kindOf n==some .cell)=true
 ·have e':(n,NameKind.cell)=(y,k):=by rw [<-e];simp only [hc,if_true]
  cases e'
  simp only [ia,beq_iff_eq] at hc
  exact ⟨_,hn,.inl ⟨hc.1.1,hc.2,rfl⟩⟩
 ·have e':(n,k0)=(y,k):=by rw [<-e];simp only [hc,if_false];rfl
  cases e'
  refine ⟨_,hn,.inr ⟨rfl,λ⟨a,b,c⟩=>hc ?_⟩⟩
  simp [a,b,c]
def Ct (S:di X.env.scope scope x) {y:Str} (h:(relabel scope X.env).names.lookup y=some .local):y=x\/y = ".0" := by
 obtain ⟨k0,hm,⟨_,_,e⟩|⟨e,_⟩⟩:=ko h
 ·cases e
 ·subst e
  exact (S.names _ hm rfl).2
def vi (S:di X.env.scope scope x) (hk:X.env.scope.kind=.function) {y:Str}(h:(relabel scope X.env).names.lookup y=some .cell\/(relabel scope X.env).names.lookup y=some .free):(y,NameKind.free)∈scope.names:=by
 rcases h with h|h
 ·obtain ⟨k0,hm,⟨e,_,_⟩|⟨e,_⟩⟩:=ko h
  ·subst e;exact hm
  ·subst e;exact absurd rfl (S.ncell _ hm)
 ·obtain ⟨k0,hm,⟨_,_,e⟩|⟨e,n⟩⟩:=ko h
  ·cases e
  ·subst e
   exact hm
end
def Ln {P:Program}{wd:World}{B:Around}{Z:Result->Shared->Prop}{u0:Shared}{el tg iter:Expr}{sc:Scope}{ps:Pos}{iv ac:Value}{ev:Env}(J0:Nat->Shared->Prop)
  (turn:∀k u,J0 k u->wpAny (model P wd) B (pyNext iv) (λr u1=>match r with|none=>Z (.ok .next) u1|some v=>wpAny (model P wd) B (letOwnedTupleGo tg iv v) (λ_ u2 =>
   wpAny (model P wd) B (assign tg ev v) (λ_ u3=>wpAny (model P wd) B (eval el ev) (λy u4=>wpAny (model P wd) B (call (.builtin "list.append") [ac,y]) (λ_ u5=>∃m,m<k/\J0 m u5)
    (notedBy (model P wd) B ev λe u=>Z (.error e) u) u4) (notedBy (model P wd) B ev λe u=>Z (.error e) u) u3) (notedBy (model P wd) B ev λe u=>Z (.error e) u) u2) (notedBy (model P wd) B ev λe u=>Z (.error e) u) u1)
   (notedBy (model P wd) B ev λe u=>Z (.error e) u) u)
  (k0:Nat) (iA:J0 k0 u0):codeAny (model P wd) B (.compLoop (.ListComp el [⟨tg,iter,[],0⟩] sc ps) 0 iv ac ev) Z u0:=by
 refine codeAny_loop rfl J0 (λk u hJ=>wpAny_noted (E:=λe u=>Z (.error e) u) (env:=ev) (m:=compTurn (.ListComp el [⟨tg,iter,[],0⟩] sc ps) 0 iv ac ev) ?_) k0 iA
 rw [compTurn_list1]
 have one:=turn k u hJ
 refine zt (wpAny_standAt (zt (yP one (λr u1 q1=>?_) λ_ _ z=>z)))
 cases r with
 | none=>exact zM q1
 | some v =>
  refine zt (yP q1 (λ_ u2 q2=>zt (yP q2 (λ_ u3 q3=>?_) λ_ _ z=>z)) λ_ _ z=>z)
  exact zt (zt (yP q3 (λy u4 q4=>zt (yP q4 (λ_ u5 q5=>zM (zM ⟨rfl,q5⟩)) λ_ _ z=>z)) λ_ _ z=>z))
def lM (J:It) (te:TE) (U:St) (Q:VK) (H1:Hp):Prop:=∃W:Nat->Nat->List V->Hp->Prop,(∃m,W 0 m [] H1)/\∀i m ys H,W i m ys H ->
 (J.stop i H/\ys.length<=sizeLine/\∀l,H l=none->Q (.ref l) (upd H l (.lst ys))) \/
 (J.go i H/\ys.length<=sizeLine/\∀z H',J.yld i H z H'->te (some z::U) H' λy H2=>∃m',m'<m/\W (i+1) m' (ys++[y]) H2)
def Cu (wi:TI) (te:TE):TE:=λU H Q=>wi U H λJ H1=>lM J te U Q H1
end L2
namespace L2
open PySem PySem.Spec PyProof.Rows PySem.W
structure cS (sc scope:Scope) (xs:Ad):Prop where
 kind:scope.kind=.function
 ncell:∀y∈scope.names,y.2 ≠ .cell
 names:∀y∈scope.names,y.2=.local->scope.names.lookup y.1=some .local/\(y.1∈xs\/y.1 = ".0")
 free:∀y∈scope.names,y.2=.free->sc.names.lookup y.1=some .cell
def eW (X:Cx) (scope:Scope) (cl:List (Str×Addr)) (xs:Ad) (C:Addr) (af:Shared) (ah:Hp) (fp:Ae) (E:Aa):Cx :=
 { X with N:=xs++X.N,s₀:=af,H₀:=ah,env:=compEnvC scope cl C X.env,outer:=X.stack,ex:=fp,fn:=λ_=>false,pn:=[],xe:=E }
def dz (X:Cx) (M:Ad) (scope:Scope) (cl:List (Str×Addr)) (xs:Ad) (C:Addr) (af:Shared) (ah:Hp) (fp:Ae) (E:Aa):Cx :=
 { X with N:=xs++M,s₀:=af,H₀:=ah,env:=compEnvC scope cl C X.env,outer:=X.stack,ex:=fp,fn:=λ_=>false,pn:=[],xe:=E }
section
variable {X:Cx}{scope:Scope}{xs:Ad}
def Cw (S:cS X.env.scope scope xs) {y:Str} (h:(relabel scope X.env).names.lookup y=some .local):y∈xs\/y = ".0" := by
 obtain ⟨k0,hm,⟨_,_,e⟩|⟨e,_⟩⟩:=ko h
 ·cases e
 ·subst e
  exact (S.names _ hm rfl).2
def vj (S:cS X.env.scope scope xs) (hk:X.env.scope.kind=.function) {y:Str}(h:(relabel scope X.env).names.lookup y=some .cell\/(relabel scope X.env).names.lookup y=some .free):(y,NameKind.free)∈scope.names:=by
 rcases h with h|h
 ·obtain ⟨k0,hm,⟨e,_,_⟩|⟨e,_⟩⟩:=ko h
  ·subst e;exact hm
  ·subst e;exact absurd rfl (S.ncell _ hm)
 ·obtain ⟨k0,hm,⟨_,_,e⟩|⟨e,n⟩⟩:=ko h
  ·cases e
  ·subst e
   exact hm
end
def iB (X:Cx) (ifs:List Expr) (t:TT):Prop:=∀(pins:Ac) (s:Shared) (U:St) (H:Hp) (Q:Bool->Hp->Prop),Inv X pins U H s->t U H Q ->
 wpAny (model X.prog X.w) X.A (forIn ifs true λc r=>if r=true then do let ok <-isTrue c X.env (eval c X.env);pure (ForInStep.yield ok) else pure (ForInStep.yield r)) (TP X pins U Q) X.xe s
def nv:TT:=λ_ H Q=>Q true H
def Cy {X:Cx}:iB X [] nv:=λpins s U H Q I h=>wpAny_tests_nil ⟨H,I,h⟩
def vk {X:Cx}{c:Expr}{t:TT}(h:PT X c t):iB X [c] t:=λpins s U H Q I q=>wpAny_tests_one (h pins s U H Q I q)
def iB.nox {X:Cx}{ifs:List Expr}{t:TT}(h:iB X.nox ifs t):iB X ifs t:=λpins s U H Q I hw =>
 yP (h pins s U H Q (I.wish _) hw) (λb s' ⟨H',I',q⟩=>⟨H',I'.unwish,q⟩) λ_ _ z=>z.elim
def Lo {P:Program}{wd:World}{B:Around}{Z:Result->Shared->Prop}{u0:Shared}{el tg iter:Expr}{ifs:List Expr}{sc:Scope}{ps:Pos}{iv ac:Value}{ev:Env}(J0:Nat->Shared->Prop)
  (turn:∀k u,J0 k u->wpAny (model P wd) B (pyNext iv) (λr u1=>match r with|none=>Z (.ok .next) u1|some v=>wpAny (model P wd) B (letOwnedTupleGo tg iv v) (λ_ u2 =>
   wpAny (model P wd) B (assign tg ev v) (λ_ u3=>wpAny (model P wd) B (forIn ifs true λc r=>if r=true then do let ok <-isTrue c ev (eval c ev);pure (ForInStep.yield ok) else pure (ForInStep.yield r)) (λok u4 =>
    if ok=true then wpAny (model P wd) B (eval el ev) (λy u5=>wpAny (model P wd) B (call (.builtin "list.append") [ac,y]) (λ_ u6=>∃m,m<k/\J0 m u6)
    (notedBy (model P wd) B ev λe u=>Z (.error e) u) u5) (notedBy (model P wd) B ev λe u=>Z (.error e) u) u4 else ∃m,m<k/\J0 m u4) (notedBy (model P wd) B ev λe u=>Z (.error e) u) u3) (notedBy (model P wd) B ev λe u=>Z (.error e) u) u2) (notedBy (model P wd) B ev λe u=>Z (.error e) u) u1)
   (notedBy (model P wd) B ev λe u=>Z (.error e) u) u)
  (k0:Nat) (iA:J0 k0 u0):codeAny (model P wd) B (.compLoop (.ListComp el [⟨tg,iter,ifs,0⟩] sc ps) 0 iv ac ev) Z u0:=by
 refine codeAny_loop rfl J0 (λk u hJ=>wpAny_noted (E:=λe u=>Z (.error e) u) (env:=ev) (m:=compTurn (.ListComp el [⟨tg,iter,ifs,0⟩] sc ps) 0 iv ac ev) ?_) k0 iA
 rw [compTurn_list]
 have one:=turn k u hJ
 refine zt (wpAny_standAt (zt (yP one (λr u1 q1=>?_) λ_ _ z=>z)))
 cases r with
 | none=>exact zM q1
 | some v =>
  refine zt (yP q1 (λ_ u2 q2=>zt (yP q2 (λ_ u3 q3=>zt (yP q3 (λok u4 q4=>?_) λ_ _ z=>z)) λ_ _ z=>z)) λ_ _ z=>z)
  cases ok with
  | true=>exact zt (zt (yP q4 (λy u4 q4=>zt (yP q4 (λ_ u5 q5=>zM (zM ⟨rfl,q5⟩)) λ_ _ z=>z)) λ_ _ z=>z))
  | false=>exact zt (zM (zM ⟨rfl,q4⟩))
def iC (J:It) (gt:TG) (tt:TT) (te:TE) (n:Nat) (U:St) (Q:VK) (H1:Hp):Prop:=∃W:Nat->Nat->List V->Hp->Prop,(∃m,W 0 m [] H1)/\∀i m ys H,W i m ys H ->
 (J.stop i H/\ys.length<=sizeLine/\∀l,H l=none->Q (.ref l) (upd H l (.lst ys))) \/
 (J.go i H/\ys.length<=sizeLine/\∀z H',J.yld i H z H'->gt z (List.replicate n none++U) H' λaw H1=>∃own:St,aw=own++U/\own.length=n/\tt aw H1 λb H2 =>
  if b=true then te aw H2 λy H3=>∃m',m'<m/\W (i+1) m' (ys++[y]) H3 else ∃m',m'<m/\W (i+1) m' ys H2)
def vm (wi:TI) (gt:TG) (tt:TT) (te:TE) (n:Nat):TE:=λU H Q=>wi U H λJ H1=>iC J gt tt te n U Q H1
theorem vn {X:Cx} {elt iter tg:Expr} {ifs:List Expr} {xs:Ad} {pos:Pos} {scope:Scope} {wi:TI} {gt:TG} {tt:TT} {te:TE} {M:Ad} (hc:X.calm=true) (S:cS X.env.scope scope xs) (eN:Hid scope M X.N) (cv:((".0" : Str)::(xs++M)).Nodup)
  (hi:PI X tg iter wi) (vo:∀cl C af ah fp E,PG (dz X M scope cl xs C af ah fp E) tg gt) (iD:∀cl C af ah fp,iB (dz X M scope cl xs C af ah fp (λ_ _=>False)) ifs tt) (he:∀cl C af ah fp,PE (dz X M scope cl xs C af ah fp (λ_ _=>False)) elt te)
  (hs:∀v,foldedSetIterable iter X.env v=pure v:=by intro _;rfl):PE X (.ListComp elt [⟨tg,iter,ifs,0⟩] scope pos) (vm wi gt tt te xs.length):=by
 intro pins s U H Q I h
 have hN:(xs++M).Nodup:=(jI.mp cv).2
 have vp:(".0" : Str)∉M:=λz=>(jI.mp cv).1 (yN _ z)
 obtain ⟨cl,lP,cV,kr⟩:=Cr X.env scope λp hp hf=>I.ok.has p.1 (.inl (S.free p hp hf))
 have lQ:X.env.scope.kind=.function:=I.ok.kind
 rw [eval_ListComp]
 refine wpAny_comprehension_free (use:=none) rfl hs lP S.kind (λy hy hl=>(S.names y hy hl).1) ?_
 refine aV (hi pins s U H _ I h) λv s1 h1=>aV h1 λrB af h2=>?_
 obtain ⟨it,fp,tn,J,H2,e,I2,T,aA,f2,W,⟨m0,w0⟩,turn⟩:=h2
 subst e
 refine hW (wpAny_newFunctionEnv S.ncell (by intro y hy;simp at hy) (λaz aF aB=>?_) S.kind)
 dsimp only at aF aB ⊢
 generalize hH2:af.heap.push { cls:=.type "list", dict:=none,data:=.seq ([]:Af).toArray }=G2 at aF aB ⊢
 have hC:G2.objs.size=af.heap.objs.size+1:=by rw [<-hH2,Heap.size_push]
 have gX:af.heap.objs.size≠G2.objs.size:=by rw [hC];exact yK (jK _)
 have Cz:af.heap.objs.size<=G2.objs.size:=by rw [hC];exact Nat.le_succ _
 have old:∀b o,af.heap.get? b=some o->az.get? b=some o:=λb o e=>by
  have hb:b≠G2.objs.size:=by rw [hC];exact yK (Nat.lt_succ_of_lt (ym e))
  exact aB.extBut b o hb (yk _ (hH2▸yk _ e))
 have fJ:az.get? af.heap.objs.size=some { cls:=.type "list", data:=.seq (#[]:Array Value) 0 }:=aB.extBut _ _ gX (yk _ (hH2▸yY _ rfl))
 generalize hD:af.heap.objs.size=D at *
 generalize hCC:G2.objs.size=C at *
 have eX:∀{b:Nat} {o:Obj},af.heap.get? b=some o->b<D:=λe=>by rw [<-hD];exact ym e
 have nofr:∀b,D<=b->b∉cT X.stack:=λb hb z=>by
  rcases yF.mp (I2.stkSub b z) with q|q
  ·exact Cn I2.lt hD hb q
  ·exact I2.nofs (by rw [hD];exact hb) q
 let E':Aa:=notedBy (model X.prog X.w) X.A (compEnvC scope cl C X.env) λe s'=>compPost (model X.prog X.w) X.A X.xe none (EP X pins U Q) (.ref D) C (.error e) s'
 let Y:Cx:=dz X M scope cl xs C af H2 fp E'
 have dI:∀b∈fp,cU X pins H2 b:=f2
 have lR:Y.Ok:=by
  refine ⟨I2.ok.mod,S.kind,I2.ok.glob,I2.ok.blt,(by show af.heap.objs.size<=C;omega),λy z c h1 h2=>?_,λy hy=>?_,λy c hf=>?_,I2.ok.hd,I2.ok.frames,.inl rfl,λb hb=>?_,I2.bs,y4 I2.ok.bsz I2.sz,λb o hb hx=>?_,λb hb hx=>?_,I2.stack,I2.stkFree⟩
  ·exact I2.ok.inj y z c (cV y c h1) (cV z c h2)
  ·exact kr y (vj S lQ hy)
  ·cases hf
  ·refine ⟨λz=>?_,λy c hy=>(dI b hb).2.2.2.2.1 y c (cV y c hy)⟩
   obtain ⟨o,ho,_⟩:=T.obj 0 _ aA b hb
   exact lK (eX ho) hC z
  ·rcases (dI b hx).2.2.2.1 with z|z
   ·exact I2.ok.noex b o hb z
   ·exact Co (ym hb) I2.ok.bsz z
  ·rcases yF.mp (I2.stkSub b hx) with q|q
   ·exact (dI b hb).2.1 q
   ·exact (dI b hb).2.2.1 q
 have f6:∀{s':Shared} {H':Hp} {o:Obj},s'.heap.get? D=some o->H' D=none->(∀v,o.data ≠ .cell v)->∀p∈[(D,o)],s'.heap.get? p.1=some p.2/\H' p.1=none/\p.1≠Y.env.locals/\p.1∉Y.fs/\∀v,p.2.data ≠ .cell v:=λ{s' H' o} e1 e2 e3 p hp=>by
  have ep:p=(D,o):=by simpa using hp
  subst ep
  exact ⟨e1,e2,gX,nofr D (ye _),e3⟩
 have I0:Inv Y [(D,{ cls:=.type "list", data:=.seq (#[]:Array Value) 0 })] (List.replicate xs.length none++U) H2 { af with heap:=az,toks:=af.toks+([]:List (Str×Value)).length }:=by
  have fresh:∀b,D<=b->H2 b=none:=λb hb=>I2.hok.fresh (by rw [hD];exact hb)
  refine ⟨lR,rfl,I2.bare,Un.kept old,⟨_,aF,λi y v e1 e2 e3=>?_⟩,λy c hy=>?_,fresh C (by omega),λy c hy=>I2.freeC y c (cV y c hy),λp hp=>f6 fJ (fresh D (ye _)) (λv z=>by cases z) p hp,I2.hok.kept old,?_⟩
  ·by_cases bw:i<xs.length
   ·rw [ib (by simpa using bw),List.getElem?_replicate] at e2
    simp [bw] at e2
   ·obtain ⟨j,rfl⟩:∃j,i=xs.length+j:=⟨i-xs.length,by omega⟩
    have ph:M[j]?=some y:=by
     have:(xs++M)[xs.length+j]?=some y:=e1
     rw [ic (by omega)] at this
     simpa using this
    have vq:X.N[j]?=some y:=by
     rcases eN.get ph with q|q
     ·exact q
     ·refine absurd ?_ q
      rcases e3 with e3|e3|e3<;>(obtain ⟨k0,hm,_⟩:=ko e3;exact jE.mpr ⟨_,hm,rfl⟩)
    have vt:U[j]?=some (some v):=by
     rw [ic (by simp)] at e2
     simpa using e2
    have ku:¬(y∈xs\/y = ".0"):=λz=>by
     have hm:=ly ph
     rcases z with z|z
     ·exact (List.nodup_append.mp hN).2.2 y z y hm rfl
     ·rw [z] at hm
      exact vp hm
    have d0:(y,NameKind.free)∈scope.names:=by
     rcases e3 with e3|e3|e3
     ·exact absurd (Cw S e3) ku
     ·exact vj S lQ (.inl e3)
     ·exact vj S lQ (.inr e3)
    have pj:X.env.scope.names.lookup y=some .cell:=S.free _ d0 rfl
    obtain ⟨m,hn,hl⟩:=I2.loc
    obtain ⟨u,r,l⟩:=hl j y v vq vt (.inr (.inl pj))
    refine ⟨u,r,?_⟩
    rcases l with ⟨hk,_⟩|⟨_,c,nk,d8⟩
    ·have:X.env.kindOf y=some .cell:=pj
     rw [this] at hk;cases hk
    ·obtain ⟨c',cQ⟩:=kr y d0
     have:=cV y c' cQ
     rw [nk] at this
     cases this
     refine .inr ⟨?_,c,cQ,?_⟩
     ·rcases e3 with e3|e3|e3
      ·exact absurd (Cw S e3) ku
      ·exact .inl e3
      ·exact .inr e3
     ·obtain ⟨o,ho,hd⟩:=d8
      exact ⟨o,old c o ho,hd⟩
  ·obtain ⟨v,o,ho,hd⟩:=I2.cell y c (cV y c hy)
   exact ⟨v,o,old c o ho,hd⟩
  ·show (List.replicate xs.length none++U).length=(xs++M).length
   simp [I2.len,eN.1]
 have lS:∀{pl:Ac} {H':Hp},(∀p∈pl,p.1=D)->(∀b∈fp,H' b=none)->∀b∈fp,cU Y pl H' b:=λ{pl H'} bu hn b hb=>by
  obtain ⟨o,ho,_⟩:=T.obj 0 _ aA b hb
  refine ⟨hn b hb,λz=>?_,?_,.inl hb,(lR.exf b hb).2,λp hp z=>?_⟩
  ·exact lK (eX ho) hC z
  ·exact lR.exfs b hb
  ·have hp':p∈pl:=by simpa [Y,dz] using hp
   exact Cp (eX ho) (bu p hp') z
 have loop:codeAny (model X.prog X.w) X.A (.compLoop (.ListComp elt [⟨tg,iter,ifs,0⟩] scope pos) 0 (.ref it) (.ref D) (compEnvC scope cl C X.env))
   (compPost (model X.prog X.w) X.A X.xe none (EP X pins U Q) (.ref D) C) { af with heap:=az,toks:=af.toks+([]:List (Str×Value)).length }:=by
  refine Lo (λn s'=>∃i ys H' its k,Inv Y [(D,{ cls:=.type "list", data:=.seq (its:Af).toArray k })] (List.replicate xs.length none++U) H' s'/\Vals ys its/\tn i s'.heap/\(∀b∈fp,H' b=none)/\W i n ys H') ?_ m0
   ⟨0,[],H2,[],0,I0,.nil,T.keep 0 _ _ aA (λb hb o e=>old b o e),λb hb=>(dI b hb).1,w0⟩
  rintro n s3 ⟨i,ys,H3,its,k,I3,rv,a0,kg,w3⟩
  have gA:∀{o:Obj},∀p∈[(D,o)],p.1=D:=λ{o} p hp=>by
   have ep:p=(D,o):=by simpa using hp
   rw [ep]
  obtain ⟨gD,nD,_,_,_⟩:=I3.pin (D,_) (yN _ jd)
  rcases turn i n ys H3 w3 with ⟨stop,hz,q⟩|⟨go,hz,step⟩
  ·refine aV (T.done Y rfl rfl rfl hc i _ s3 _ H3 E' I3 (lS gA kg) a0 stop) λr s4 ⟨hr,I4⟩=>?_
   subst hr
   obtain ⟨vv,lU,_,_,_⟩:=I4.pin (D,_) (yN _ jd)
   obtain ⟨m4,vw,_⟩:=id I4.loc
   refine ⟨m4,vw,λh' dJ=>?_⟩
   refine ⟨.ref D,upd H3 D (.lst ys),?_,rfl,q D lU⟩
   have gT:∀{b:Addr} {u:HO},H3 b=some u->b≠C:=λe z=>by
    have:H3 C=none:=I4.free
    rw [z,this] at e;cases e
   refine I2.call' (s':={ s4 with heap:=h' }) (ch:=fp) (H':=upd H3 D (.lst ys)) I4.os ?_ ?_ I4.bare λb hb=>⟨(dI b hb).2.2.2.1,(dI b hb).2.1,(dI b hb).2.2.2.2.1,(dI b hb).2.2.2.2.2⟩
   ·have B:=I4.base
    have lV:∀{b:Nat} {o:Obj},af.heap.get? b=some o->b≠C:=λe z=>lK (eX e) hC z
    have lW:∀{b:Addr} {u:HO},H3 b=some u->b≠D:=λe z=>by rw [z,lU] at e;cases e
    refine ⟨λb o e nn hb hx=>(dJ.2 b (lV e)).trans (B.keep b o e nn hb hx),λb o e nn hb hx=>?_,λb o e nn hx=>?_,λb o e hx=>?_,λb xs e=>?_,λb o u e=>?_,λb ps e=>?_⟩
    ·obtain ⟨sl,z⟩:=B.slot b o e nn hb hx
     exact ⟨sl,(dJ.2 b (lV e)).trans z⟩
    ·have vx:b≠D:=yK (eX e)
     rw [yc vx]
     exact B.free b o e nn hx
    ·obtain ⟨o',z⟩:=B.there b o e hx
     exact ⟨o',(dJ.2 b (lV e)).trans z⟩
    ·have z:=B.tups b xs e
     rw [yc (lW z)];exact z
    ·have z:=B.frzs b o u e
     rw [yc (lW z)];exact z
    ·obtain ⟨more,z⟩:=B.tbls b ps e
     exact ⟨more,by rw [yc (lW z)];exact z⟩
   ·intro a o e
    by_cases ha:a=D
    ·subst ha
     rw [y0] at e
     cases e
     exact ⟨hz,its,k,rv,(dJ.2 _ gX).trans vv⟩
    ·rw [yc ha] at e
     have fK:∀b u,H3 b=some u->(upd H3 D (.lst ys)) b=some u:=λb u z=>by
      have hb:b≠D:=λw=>by rw [w,lU] at z;cases z
      rw [yc hb];exact z
     refine (I4.hok a o e).stay (λb u hb z=>(dJ.2 b ?_).trans z) (λb z=>fK b _ z) λb xs z=>fK b _ z
     rcases hb with hb|hb
     ·rw [hb];exact gT e
     ·exact gT hb
  ·refine aV (T.item Y rfl rfl rfl hc i _ s3 _ H3 E' I3 (lS gA kg) a0 go) λr s4 ⟨u,hr,h4⟩=>?_
   subst hr
   refine aV h4 λ_ s5 ⟨z,H5,I5,r5,y5,dm,oV⟩=>?_
   have oW:=I5.pinned (lS gA oV) (T.obj _ _ dm)
   have f7:PG Y tg gt:=vo cl C af H2 fp E'
   have vy:PE Y elt te:=PE.nox (X:=Y) (he cl C af H2 fp)
   have Lp:iB Y ifs tt:=iB.nox (X:=Y) (iD cl C af H2 fp)
   refine aV (f7 _ s5 (List.replicate xs.length none++U) H5 z u _ oW r5 (step z _ y5)) λ_ s6 ⟨aI,H6,I6,own,e1,e2,q6⟩=>?_
   subst e1
   have wk:∀(j:Nat) v,(List.replicate xs.length none++U)[j]?=some (some v)->(own++U)[j]?=some (some v):=λj v e=>by
    by_cases bw:j<xs.length
    ·rw [ib (by simpa using bw),List.getElem?_replicate] at e
     simp [bw] at e
    ·rw [ic (by simp;omega)] at e
     rw [ic (by omega),e2]
     simpa using e
   have wl:(List.replicate xs.length none++U).length=(own++U).length:=by simp [e2]
   refine aV (Lp _ s6 _ _ _ I6 q6) λb s7 ⟨H7,I7,q7⟩=>?_
   cases b with
   | true =>
    refine aV (vy _ s7 _ _ _ I7 q7) λuy s7 ⟨y,H7,I7,ry,m',hm,w7⟩=>?_
    obtain ⟨pq,lX,_,_,_⟩:=I7.pin (D,_) (yN _ (j4 _ jd))
    refine wpAny_list_append_plain ⟨k,pq⟩ (λh' bu dJ=>?_) (by rw [yQ,<-rv.length];exact hz)
    obtain ⟨k',pv⟩:=bu
    have I8:Inv Y [] (own++U) H7 { s7 with heap:=h' }:=(I7.pins_of (pins':=[]) (λp hp=>nomatch hp)).turned (it:=D) (t':=s7.toks) (λb o hb e=>(dJ.2 b hb).trans e) lX gX
     (.inr (by show af.heap.objs.size<=D;omega)) (λa c hy vz=>by
      obtain ⟨v',o',ho',_⟩:=I2.cell a c (cV a c hy)
      exact yK (eX ho') vz) (λp hp=>by simp [Y,dz] at hp)
    have I9:Inv Y [] (List.replicate xs.length none++U) H7 { s7 with heap:=h' }:=I8.weak wl wk
    have d9:∀b∈fp,∃o,s5.heap.get? b=some o/\s7.heap.get? b=some o/\H7 b=none:=λb hb=>by
     obtain ⟨o,e,_⟩:=T.obj _ _ dm b hb
     have q:=I7.pin (b,o) (yN _ (yN _ (oU hb e)))
     exact ⟨o,e,q.1,q.2.1⟩
    have vA:∀b∈fp,b≠D:=λb hb=>by
     obtain ⟨o,ho,_⟩:=T.obj 0 _ aA b hb
     exact yK (eX ho)
    have eT:its.toArray.push uy=(its++[uy]).toArray:=by simp
    rw [eT] at pv
    refine ⟨m',hm,i+1,ys++[y],H7,its++[uy],k',I9.pins_of (f6 pv lX λv e=>by cases e),rv.append (.cons ry .nil),T.keep (i+1) _ _ dm λb hb o e=>?_,λb hb=>?_,w7⟩
    ·obtain ⟨o',e1,e2,_⟩:=d9 b hb
     rw [e] at e1
     cases e1
     exact (dJ.2 b (vA b hb)).trans e2
    ·obtain ⟨_,_,_,q⟩:=d9 b hb
     exact q
   | false =>
    obtain ⟨m',hm,w7⟩:=q7
    obtain ⟨pq,lX,_,_,_⟩:=I7.pin (D,_) (yN _ (j4 _ jd))
    have I9:Inv Y [] (List.replicate xs.length none++U) H7 s7:=(I7.pins_of (pins':=[]) (λp hp=>nomatch hp)).weak wl wk
    have d9:∀b∈fp,∃o,s5.heap.get? b=some o/\s7.heap.get? b=some o/\H7 b=none:=λb hb=>by
     obtain ⟨o,e,_⟩:=T.obj _ _ dm b hb
     have q:=I7.pin (b,o) (yN _ (yN _ (oU hb e)))
     exact ⟨o,e,q.1,q.2.1⟩
    refine ⟨m',hm,i+1,ys,H7,its,k,I9.pins_of (f6 pq lX λv e=>by cases e),rv,T.keep (i+1) _ _ dm λb hb o e=>?_,λb hb=>?_,w7⟩
    ·obtain ⟨o',e1,e2,_⟩:=d9 b hb
     rw [e] at e1
     cases e1
     exact e2
    ·obtain ⟨_,_,_,q⟩:=d9 b hb
     exact q
 exact codeAny_compStart_list loop (T.self X.A 0 _ _ _ (T.keep 0 _ _ aA (λb hb o e=>old b o e)) loop)
def vB {X:Cx} {elt iter tg:Expr} {ifs:List Expr} {xs:Ad} {pos:Pos} {scope:Scope} {wi:TI} {gt:TG} {tt:TT} {te:TE} {N:Ad} (hc:X.calm=true) (S:cS X.env.scope scope xs) (eN:X.N=N) (cv:((".0" : Str)::(xs++N)).Nodup)
  (hi:PI X tg iter wi) (vo:∀cl C af ah fp E,PG (eW X scope cl xs C af ah fp E) tg gt) (iD:∀cl C af ah fp,iB (eW X scope cl xs C af ah fp (λ_ _=>False)) ifs tt) (he:∀cl C af ah fp,PE (eW X scope cl xs C af ah fp (λ_ _=>False)) elt te)
  (hs:∀v,foldedSetIterable iter X.env v=pure v:=by intro _;rfl):PE X (.ListComp elt [⟨tg,iter,ifs,0⟩] scope pos) (vm wi gt tt te xs.length) :=
 vn (M:=X.N) hc S Hid.refl (by rw [eN];exact cv) hi vo iD he hs
def Lq {X:Cx} {elt iter:Expr} {x:Str} {px pos:Pos} {scope:Scope} {wi:TI} {te:TE} {M:Ad} (hc:X.calm=true) (S:di X.env.scope scope x) (eN:Hid scope M X.N) (cv:((".0" : Str)::x::M).Nodup)
  (hi:PI X (.Name x px) iter wi) (he:∀cl C af ah fp,PE (km X M scope cl x C af ah fp (λ_ _=>False)) elt te)
  (hs:∀v,foldedSetIterable iter X.env v=pure v:=by intro _;rfl):PE X (.ListComp elt [⟨.Name x px,iter,[],0⟩] scope pos) (Cu wi te):=by
 have hN:([x]++M).Nodup:=(jI.mp cv).2
 have S':cS X.env.scope scope [x]:=⟨S.kind,S.ncell,λy hy h=>⟨(S.names y hy h).1,(S.names y hy h).2.imp (λe=>by rw [e];exact List.mem_singleton_self _) id⟩,S.free⟩
 have f7:∀cl C af ah fp E,PG (dz X M scope cl [x] C af ah fp E) (.Name x px) (jX 0):=λcl C af ah fp E=>wq (X:=dz X M scope cl [x] C af ah fp E) (i:=0) hN rfl (.inl (jx S.hx)) (.inr (jx S.hx))
 have e:∀U Q,(λJ H1=>lM J te U Q H1)=λJ H1=>iC J (jX 0) nv te 1 U Q H1:=λU Q=>by
  funext J H1
  exact propext (exists_congr λW=>and_congr Iff.rfl (forall_congr' λi=>forall_congr' λm=>forall_congr' λys=>forall_congr' λH=>imp_congr Iff.rfl (or_congr Iff.rfl (and_congr Iff.rfl (and_congr Iff.rfl (forall_congr' λz=>forall_congr' λH'=>imp_congr Iff.rfl
   ⟨λh=>⟨[some z],rfl,rfl,h⟩,λ⟨_,_,_,h⟩=>h⟩))))))
 intro pins s U H Q I h
 refine vn (te:=te) (tt:=nv) hc S' eN cv hi f7 (λcl C af ah fp=>Cy) (λcl C af ah fp=>he cl C af ah fp) hs pins s U H Q I ?_
 show wi U H λJ H1=>iC J (jX 0) nv te 1 U Q H1
 rw [<-e]
 exact h
end L2
namespace L2
open PySem PySem.Spec PyProof.Rows
def vC (z:Str):It:=⟨λi _=>i<z.cps.size,λi H v H'=>H'=H/\∃c,z.cps[i]?=some c/\v=.str ⟨#[c]⟩,λi _=>z.cps.size<=i⟩
def CA {P:Program} {w:World} {K:PySem.W.Frag} {tg:Expr} (z:Str) (t:Tok) (it:Addr) (ty:String) (nr:ty = "str_ascii_iterator" \/ ty = "str_iterator"):Turn P w K tg (vC z) [it] it (λi h=>h.IsStrIter it ty z t i) where
 mem:=by simp
 obj:=λi h st b hb=>by
  have e:b=it:=by simpa using hb
  subst e
  obtain ⟨o,e,c,d⟩:=st
  exact ⟨o,e,λv z=>by rw [d] at z;cases z⟩
 keep:=λi h h' st k=>by
  obtain ⟨o,e,r⟩:=st
  exact ⟨o,k it (by simp) o e,r⟩
 item:=by
  intro X hP hw hK hc i pins s U H E I hf st hg
  subst hP hw hK
  obtain ⟨f0,f1,f2,f3,f4,f5⟩:=hf it (by simp)
  have W:Walks X.prog X.w X.A it [it] [it] z.cps.size (SignAt z) (λi h=>h.IsStrIter it ty z t i):=by
   rcases nr with e|e
   ·rw [e];exact Walks.strAscii (I.ok.hd hc) it z t
   ·rw [e];exact Walks.strWide (I.ok.hd hc) it z t
  refine W.item i s _ _ hg st λv h' tk hv bx kk=>?_
  obtain ⟨c,u,vD,rfl⟩:=hv
  have I1:Inv X pins U H { s with heap:=h',toks:=tk }:=I.turned (λb o hb e=>kk b o (by simpa using hb) e) f0 f1 f3 f4 f5
  obtain ⟨o,e,cc,d⟩:=id bx
  exact ⟨_,rfl,rD (s:={ s with heap:=h',toks:=tk }) e cc d (by rcases nr with e|e<;>rw [e]<;>decide) ⟨.str ⟨#[c]⟩,H,I1,⟨u,rfl⟩,⟨rfl,c,vD,rfl⟩,bx,λb hb=>(hf b hb).1⟩⟩
 done:=by
  intro X hP hw hK hc i pins s U H E I hf st hg
  subst hP hw hK
  obtain ⟨f0,f1,f2,f3,f4,f5⟩:=hf it (by simp)
  have hn:z.cps[i]?=none:=by
   have Ls:z.cps.size<=i:=hg
   simpa using Ls
  rcases nr with e|e
  ·rw [e] at st
   exact wpAny_pyNext_ascii_end (I.ok.hd hc) st hn λh' eb=>⟨rfl,I.turned (t':=s.toks) (λb o hb e=>eb b o hb e) f0 f1 f3 f4 f5⟩
  ·rw [e] at st
   exact wpAny_pyNext_wide_end (I.ok.hd hc) st hn λh' eb=>⟨rfl,I.turned (t':=s.toks) (λb o hb e=>eb b o hb e) f0 f1 f3 f4 f5⟩
 self:=λA i s Q E st h=>by
  rcases nr with e|e
  ·rw [e] at st;exact wpAny_pyIter_striter_ascii st h
  ·rw [e] at st;exact wpAny_pyIter_striter_wide st h
section
variable {X:Cx}
def Lu:iw X (λx lo hi H Q=>∃z,x=.str z/\z.length<=sizeLine/\Q (.str (Txt.slice z lo hi)) H):=by
 intro pins s U H x v vl vu lo hi sl Q I rx hs pl pu h
 obtain ⟨z,rfl,hz,q⟩:=h
 obtain ⟨t,rfl⟩:=rx
 refine ⟨"str", _,F.slot_str_getitem.lookup,typeIs_str _ _ _,?_⟩
 have fin:∀t' k,EP X pins U Q (.str (Txt.slice z lo hi) t') { s with toks:=k }:=λt' k=>⟨.str _,H,I.tok _,⟨_,rfl⟩,q⟩
 cases pl with
 | none =>
  cases pu with
  | none=>exact wpAny_getItem_str_slice (l:=none) (u:=none) (st:=none) hs rfl (post_val_or_str ⟨y4 (Txt.slice_le z _ _) hz,fin⟩)
  | int j uj=>exact wpAny_getItem_str_slice (l:=none) (u:=some (j,uj)) (st:=none) hs rfl (post_val_or_str ⟨y4 (Txt.slice_le z _ _) hz,fin⟩)
 | int i ui =>
  cases pu with
  | none=>exact wpAny_getItem_str_slice (l:=some (i,ui)) (u:=none) (st:=none) hs rfl (post_val_or_str ⟨y4 (Txt.slice_le z _ _) hz,fin⟩)
  | int j uj=>exact wpAny_getItem_str_slice (l:=some (i,ui)) (u:=some (j,uj)) (st:=none) hs rfl (post_val_or_str ⟨y4 (Txt.slice_le z _ _) hz,fin⟩)
theorem CB:∀{bs:List Bool}{us:Af},Vals (bs.map V.bl) us->us=bs.map Value.bool
 | [],us,r=>by rw [List.map_nil] at r;cases r;rfl
 | b::bs,us,r=>by
  rw [yJ] at r
  cases r with
  | cons r1 r2 =>
   have e:_=Value.bool b:=r1
   rw [yJ,<-CB r2,e]
theorem cW:∀{ys:Ad}{us:Af},Vals (ys.map V.str) us->StrsAre us ys
 | [],us,r=>by rw [List.map_nil] at r;cases r;exact .nil
 | y::ys,us,r=>by
  rw [yJ] at r
  cases r with
  | cons r1 r2 =>
   obtain ⟨t,e⟩:=r1
   subst e
   exact .cons y t (cW r2)
def Lv (hc:X.calm=true):bY X (.builtin "all") (λxs H Q=>∃(a:Addr) (bs:List Bool),xs=[.ref a]/\a6 X.K H a (bs.map V.bl)/\Q (.bl (bs.all id)) H):=by
 intro pins s U H xs us Q I r h
 obtain ⟨a,bs,rfl,hl,q⟩:=h
 obtain ⟨u,rfl,ru⟩:=wQ r
 cases ru
 obtain ⟨its,rv,pl,hz⟩:=I.list hl
 have e:=CB rv
 subst e
 refine call_all_walk (wpAny_pyIter_list pl.isList ?_)
 have hh:X.A.in1.handled=none:=I.ok.hd hc
 have bw:a<s.heap.objs.size:=by
  obtain ⟨o,e,_⟩:=pl.isList
  exact ym e
 have pz:a≠s.heap.objs.size:=yK bw
 refine ⟨s.heap.objs.size,_,_,_,_,_,λi=>(bs[i]?).getD true,rfl,Walks.list hh s.heap.objs.size a pz (bs.map Value.bool).toArray,⟨⟨_,yY _ rfl,rfl,rfl⟩,pl.isList.at λo e=>yk _ e⟩,?_,λh' tk kk=>?_⟩
 ·intro i v s' Q' E' hp hq
  have hp':(bs.map Value.bool)[i]?=some v:=by simpa using hp
  rw [yZ] at hp'
  cases eb:bs[i]? with
  | none=>rw [eb] at hp';cases hp'
  | some b =>
   rw [eb] at hp'
   have:Value.bool b=v:=Option.some.inj hp'
   subst this
   refine wy ?_
   dsimp only at hq
   rw [eb] at hq
   exact hq
 ·have e1:(List.range (bs.map Value.bool).toArray.size).all (λi=>(bs[i]?).getD true)=bs.all id:=by
   rw [yQ,jk]
   rw [Bool.eq_iff_iff,List.all_eq_true,List.all_eq_true]
   constructor
   ·intro hh b hb
    obtain ⟨i,hi,e⟩:=rd hb
    have:=hh i (List.mem_range.mpr hi)
    rw [yo hi,e] at this
    exact this
   ·intro hh i hi
    have nC:=List.mem_range.mp hi
    rw [yo nC]
    exact hh _ (q_ nC)
  rw [e1]
  refine ⟨.bl (bs.all id),H,?_,rfl,q⟩
  exact I.kept (t':=tk) λb o e=>kk b o (λz=>by
   have z':b=s.heap.objs.size:=by simpa using z
   exact absurd (ym e) (by rw [z'];exact Nat.lt_irrefl _)) (yk _ e)
def Lw:B9 X "str.join" (λx xs H Q=>∃(z:Str) (a:Addr) (ys:Ad),x=.str z/\xs=[.ref a]/\a6 X.K H a (ys.map V.str)/\(ys.map (·.length)).sum+ys.length*z.length<=16777216/\Q (.str (Txt.join z ys)) H):=by
 intro pins s U H x xs v us Q I rx r h
 obtain ⟨z,a,ys,rfl,rfl,hl,hz,q⟩:=h
 obtain ⟨t,rfl⟩:=rx
 obtain ⟨u,rfl,ru⟩:=wQ r
 cases ru
 obtain ⟨its,rv,pl,_⟩:=I.list hl
 exact join_list pl.isList (by simpa using cW rv) hz λt' k=>⟨.str _,H,I.tok _,⟨_,rfl⟩,q⟩
def Lx:ba X (compareOp .In) (λx y H Q=>∃(c:Nat) (z:Str),x=.str ⟨#[c]⟩/\y=.str z/\Q (.bl (decide (c∈z.cps.toList))) H):=by
 intro pins s U H x y v u Q I rx ry h
 obtain ⟨c,z,rfl,rfl,q⟩:=h
 refine JW pins s U H _ _ v u Q I rx ry ⟨_,_,rfl,rfl,?_⟩
 rw [StrLaws.found_one]
 exact q
end
section
variable {κ:Type} [DecidableEq κ]
def cX (kvs:List (κ×V)) (k:κ):Option V:=(kvs.find? λkv=>decide (kv.1=k)).map (·.2)
def putK (kvs:List (κ×V)) (k:κ) (v:V):List (κ×V) :=
 if (kvs.any λkv=>decide (kv.1=k))=true then kvs.map (λkv=>if kv.1=k then (kv.1,v) else kv) else kvs++[(k,v)]
def rS {p:κ×V}{r:List (κ×V)}{k:κ}(e:p.1=k):cX (p::r) k=some p.2:=by simp [cX,List.find?_cons,e]
def rT {p:κ×V}{r:List (κ×V)}{k:κ}(e:¬p.1=k):cX (p::r) k=cX r k:=by simp [cX,List.find?_cons,e]
theorem CC (k:κ):∀kvs:List (κ×V),(kvs.any λkv=>decide (kv.1=k))=(cX kvs k).isSome
 | []=>rfl
 | p::r=>by
  rw [List.any_cons]
  by_cases e:p.1=k
  ·simp only [rS e,jJ e,Bool.true_or,Option.isSome_some]
  ·rw [rT e,jr e,Bool.false_or];exact CC k r
theorem CD (kvs:List (κ×V)) (k:κ) (v:V):(putK kvs k v).length<=kvs.length+1:=by
 unfold putK
 split
 ·rw [jk];omega
 ·rw [wo,j5,List.length_nil];omega
def cE.isSome_eq {o:Option V}{u:Option Value}(r:cE o u):o.isSome=u.isSome:=by
 cases o with
 | none=>cases u with
  | none=>rfl
  | some _=>exact (show False from r).elim
 | some _=>cases u with
  | none=>exact (show False from r).elim
  | some _=>rfl
def KV.val {kvs:List (κ×V)}{vs:List (κ×Value)}(r:KV kvs vs) (k:κ):cE (cX kvs k) (valueAt vs k):=by
 unfold KV at r
 induction r with
 | nil=>exact True.intro
 | @cons p q ps qs h t ih =>
  obtain ⟨h1,h2⟩:=h
  by_cases e:p.1=k
  ·have e':q.1=k:=h1.symm.trans e
   have b:valueAt (q::qs) k=some q.2:=by simp [valueAt,List.find?_cons,e']
   rw [rS e,b];exact h2
  ·have e':¬q.1=k:=λz=>e (h1.trans z)
   have b:valueAt (q::qs) k=valueAt qs k:=by simp [valueAt,List.find?_cons,e']
   rw [rT e,b];exact ih
def KV.any {kvs:List (κ×V)}{vs:List (κ×Value)}(r:KV kvs vs) (k:κ):(kvs.any λkv=>decide (kv.1=k))=vs.any λkv=>decide (kv.1=k):=by
 unfold KV at r
 induction r with
 | nil=>rfl
 | cons h t ih=>rw [List.any_cons,List.any_cons,ih,h.1]
def KV.repl {kvs:List (κ×V)}{vs:List (κ×Value)}(r:KV kvs vs) (k:κ) {y:V}{u:Value}(ry:RelV y u) :
  KV (kvs.map λkv=>if kv.1=k then (kv.1,y) else kv) (vs.map λkv=>if kv.1=k then (kv.1,u) else kv):=by
 unfold KV at r ⊢
 induction r with
 | nil=>exact .nil
 | @cons p q ps qs h t ih =>
  rw [yJ,yJ]
  refine .cons ?_ ih
  obtain ⟨h1,h2⟩:=h
  by_cases e:p.1=k
  ·rw [zx e,zx (h1.symm.trans e)];exact ⟨h1,ry⟩
  ·rw [zH e,zH (λz=>e (h1.trans z))];exact ⟨h1,h2⟩
def KV.put {kvs:List (κ×V)}{vs:List (κ×Value)}(r:KV kvs vs) (k:κ) {y:V}{u:Value}(ry:RelV y u):KV (putK kvs k y) (stored vs k u):=by
 unfold putK stored
 rw [r.any k]
 by_cases e:(vs.any λkv=>decide (kv.1=k))=true
 ·rw [zx e,zx e];exact r.repl k ry
 ·rw [zH e,zH e];exact Paired.snoc r ⟨rfl,ry⟩
def KV.keys {kvs:List (κ×V)}{vs:List (κ×Value)}(r:KV kvs vs):kvs.map (·.1)=vs.map (·.1):=by
 unfold KV at r
 induction r with
 | nil=>rfl
 | cons h t ih=>rw [yJ,yJ,ih,h.1]
def KV.length {kvs:List (κ×V)}{vs:List (κ×Value)}(r:KV kvs vs):kvs.length=vs.length:=Paired.length r
end
def pA {P:Program}{w:World}{k:Key}{u:Value}(r:RelV (kV k) u):(bf P w).is k u=true:=by
 cases k with
 | inl i=>obtain ⟨t,e⟩:=(show ∃t,u=Value.int i t from r);subst e;exact Il P w i t
 | inr x=>obtain ⟨t,e⟩:=(show ∃t,u=Value.str x t from r);subst e;exact Im P w x t
theorem vG {P:Program}{w:World}:∀{ks:List Key}{us:Af},Vals (ks.map kV) us->ItemsAre (bf P w) ks us
 | [],_,r=>by rw [List.map_nil] at r;cases r;exact .nil
 | k::ks,_,r=>by
  rw [yJ] at r
  cases r with
  | cons h t=>exact .cons (pA h) (vG t)
abbrev KT (H:Hp):List (List Key×V)->List (List Key×Addr×Value)->Prop:=Paired λp q=>p.1=q.1/\H q.2.1=some (.tup (p.1.map kV))/\RelV p.2 q.2.2
def KT.val {H:Hp}{kvs:List (List Key×V)}{xs:List (List Key×Addr×Value)}(r:KT H kvs xs) (k:List Key):cE (cX kvs k) ((atKey xs k).map (·.2)):=by
 induction r with
 | nil=>exact True.intro
 | @cons p q ps qs h t ih =>
  obtain ⟨h1,_,h2⟩:=h
  by_cases e:p.1=k
  ·have e':q.1=k:=h1.symm.trans e
   have b:atKey (q::qs) k=some q.2:=by simp [atKey,List.find?_cons,e']
   rw [rS e,b];exact h2
  ·have e':¬q.1=k:=λz=>e (h1.trans z)
   have b:atKey (q::qs) k=atKey qs k:=by simp [atKey,List.find?_cons,e']
   rw [rT e,b];exact ih
def KT.repl {H:Hp}{kvs:List (List Key×V)}{xs:List (List Key×Addr×Value)}(r:KT H kvs xs) (k:List Key) {y:V}{u:Value}(ry:RelV y u) :
  KT H (kvs.map λkv=>if kv.1=k then (kv.1,y) else kv) (xs.map (putAt k u)):=by
 induction r with
 | nil=>exact .nil
 | @cons p q ps qs h t ih =>
  rw [yJ,yJ]
  refine .cons ?_ ih
  obtain ⟨h1,h2,h3⟩:=h
  unfold putAt
  by_cases e:p.1=k
  ·rw [zx e,zx (h1.symm.trans e)];exact ⟨h1,h2,ry⟩
  ·rw [zH e,zH (λz=>e (h1.trans z))];exact ⟨h1,h2,h3⟩
def KT.put {H:Hp}{kvs:List (List Key×V)}{xs:List (List Key×Addr×Value)}(r:KT H kvs xs) (k:List Key) {b:Addr}{y:V}{u:Value}(hb:H b=some (.tup (k.map kV))) (ry:RelV y u) :
  KT H (putK kvs k y) (storedH xs k b u):=by
 have e:(kvs.any λkv=>decide (kv.1=k))=(atKey xs k).isSome:=by
  rw [CC,(r.val k).isSome_eq,Option.isSome_map]
 unfold putK storedH
 rw [e]
 by_cases q:(atKey xs k).isSome=true
 ·rw [zx q,zx q];exact r.repl k ry
 ·rw [zH q,zH q];exact Paired.snoc r ⟨rfl,hb,ry⟩
def KT.keeps {H H':Hp}{kvs:List (List Key×V)}{xs:List (List Key×Addr×Value)}(r:KT H kvs xs) (ht:∀b ys,H b=some (.tup ys)->H' b=some (.tup ys)):KT H' kvs xs :=
 Paired.mapP r λ_ _ z=>⟨z.1,ht _ _ z.2.1,z.2.2⟩
section
variable {P:Program}{w:World}{H:Hp}{h:Heap}{a:Addr}
def CF {u:HO}(ok:bZ P w H h) (e:Rd H a u):aZ P w H h a u:=e.ok ok
def jR {kvs:List (Key×V)}(ok:bZ P w H h) (e:Rd H a (.dK kvs)):kvs.length<=sizeLine/\(a==sysModules)=false/\∃vs,KV kvs vs/\h.DictOf (bf P w) a vs :=
 show aZ P w H h a (.dK kvs) from CF ok e
def CG {kvs:List (Key×V)}(ok:bZ P w H h) (e:H a=some (.dK kvs)):kvs.length<=sizeLine/\(a==sysModules)=false/\∃vs,KV kvs vs/\h.DictOf (bf P w) a vs:=jR ok (.inl e)
def pB {ks:List Key}(ok:bZ P w H h) (e:H a=some (.tup (ks.map kV))):(tupleKind (bf P w)).is h ks a:=by
 obtain ⟨_,its,r,o,h1,h2,n,h3⟩:=(show aZ P w H h a (.tup (ks.map kV)) from ok a _ e)
 exact ⟨o,its.toArray,n,h1,h2,h3,by simpa using vG r⟩
def pD {kvs:List (List Key×V)}(ok:bZ P w H h) (e:Rd H a (.dT kvs)):kvs.length<=sizeLine/\(a==sysModules)=false /\
  ∃xs,KT H kvs xs/\h.DictOfH (tupleKind (bf P w)) a xs:=by
 obtain ⟨z,y,xs,r,o,es,ep,h1,h2,h3,h4,h5⟩:=(show aZ P w H h a (.dT kvs) from CF ok e)
 refine ⟨z,y,xs,r,o,es,ep,h1,h2,h3,h4,λx hx=>?_,h5⟩
 have all:∀{l:List (List Key×V)} {m:List (List Key×Addr×Value)},KT H l m->∀x∈m,(tupleKind (bf P w)).is h x.1 x.2.1:=by
  intro l m q
  induction q with
  | nil=>intro x hx;exact nomatch hx
  | @cons p q ps qs hq t ih =>
   intro x hx
   rcases yF.mp hx with e|hx
   ·subst e
    exact pB ok (by rw [<-hq.1];exact hq.2.1)
   ·exact ih x hx
 exact all r x hx
def Ly {kvs:List (List Key×V)}(ok:bZ P w H h) (e:H a=some (.dT kvs)):kvs.length<=sizeLine/\(a==sysModules)=false /\
  ∃xs,KT H kvs xs/\h.DictOfH (tupleKind (bf P w)) a xs:=pD ok (.inl e)
end
def dS (H:Hp) (a:Addr) (y:V) (r:Option V):Prop :=
 (∃kvs k,Rd H a (.dK kvs)/\y=kV k/\r=cX kvs k)\/∃kvs k b,Rd H a (.dT kvs)/\y=.ref b/\H b=some (.tup (k.map kV))/\r=cX kvs k
def dU (H:Hp) (a:Addr) (y v:V) (H':Hp):Prop :=
 (∃kvs k,H a=some (.dK kvs)/\y=kV k/\kvs.length<sizeLine/\H'=upd H a (.dK (putK kvs k v))) \/
 ∃kvs k b,H a=some (.dT kvs)/\y=.ref b/\H b=some (.tup (k.map kV))/\kvs.length<sizeLine/\H'=upd H a (.dT (putK kvs k v))
def dS.k {H:Hp}{a:Addr}{kvs:List (Key×V)}{k:Key}(e:H a=some (.dK kvs)):dS H a (kV k) (cX kvs k):=.inl ⟨kvs,k,.inl e,rfl,rfl⟩
def dS.t {H:Hp}{a b:Addr}{kvs:List (List Key×V)}{k:List Key}(e:H a=some (.dT kvs)) (eb:H b=some (.tup (k.map kV))):dS H a (.ref b) (cX kvs k):=.inr ⟨kvs,k,b,.inl e,rfl,eb,rfl⟩
def dU.k {H:Hp}{a:Addr}{kvs:List (Key×V)}{k:Key}{v:V}(e:H a=some (.dK kvs)) (hl:kvs.length<sizeLine):dU H a (kV k) v (upd H a (.dK (putK kvs k v))):=.inl ⟨kvs,k,e,rfl,hl,rfl⟩
def dU.t {H:Hp}{a b:Addr}{kvs:List (List Key×V)}{k:List Key}{v:V}(e:H a=some (.dT kvs)) (eb:H b=some (.tup (k.map kV))) (hl:kvs.length<sizeLine) :
  dU H a (.ref b) v (upd H a (.dT (putK kvs k v))):=.inr ⟨kvs,k,b,e,rfl,eb,hl,rfl⟩
section
variable {X:Cx}{pins:Ac}{U:St}{H:Hp}{s:Shared}{a:Addr}{y v:V}{u r:Value}{o:Option V}{A:Around}{E:Aa}
def Inv.big (I:Inv X pins U H s):sysModules<s.heap.objs.size:=by
 have h:mainGlobals<s.heap.objs.size:=(I.mod.glob.keeps I.bk).lt
 exact Nat.lt_trans (by decide) h
def Lz {Q:Aa}(hu:A.units+1<cLine) (I:Inv X pins U H s) (g:dS H a y (some v)) (ry:RelV y u) (h:∀w' s',Inv X pins U H s'->RelV v w'->Q w' s') :
  wpAny (model X.prog X.w) A (getItem (.ref a) u) Q E s:=by
 rcases g with ⟨kvs,k,e,ey,l⟩|⟨kvs,k,b,e,ey,eb,l⟩
 ·subst ey
  obtain ⟨z,hd,vs,rel,dd⟩:=jR I.hok e
  obtain ⟨w',hw,dn⟩:=cE.some_of (v:=v) (o:=valueAt vs k) (by rw [l];exact rel.val k)
  exact wpAny_getItem_of (pA ry) dd.mapOf hw (h w' _ (I.tok _) dn)
 ·subst ey
  cases (show u=Value.ref b from ry)
  obtain ⟨z,hd,xs,rel,dd⟩:=pD I.hok e
  obtain ⟨w',hw,dn⟩:=cE.some_of (v:=v) (o:=(atKey xs k).map (·.2)) (by rw [l];exact rel.val k)
  obtain ⟨p,hp,pF⟩:=Option.map_eq_some_iff.mp hw
  refine wpAny_getItem_heap (tupleKind_room_in1 hu) (pB I.hok eb) dd hp ?_
  rw [pF]
  exact h w' _ (I.tok _) dn
def LA {Q:Aa}(hu:A.units+1<cLine) (I:Inv X pins U H s) (g:dS H a y o) (ry:RelV y u) (h:∀s',Inv X pins U H s'->Q (.bool o.isSome) s') :
  wpAny (model X.prog X.w) A (compareOp .In u (.ref a)) Q E s:=by
 rcases g with ⟨kvs,k,e,ey,l⟩|⟨kvs,k,b,e,ey,eb,l⟩
 ·subst ey
  obtain ⟨z,hd,vs,rel,dd⟩:=jR I.hok e
  refine wpAny_in_of (pA ry) hd dd.mapOf ?_
  rw [<-(rel.val k).isSome_eq,<-l]
  exact h _ (I.tok _)
 ·subst ey
  cases (show u=Value.ref b from ry)
  obtain ⟨z,hd,xs,rel,dd⟩:=pD I.hok e
  refine wpAny_in_heap (tupleKind_room_in1 hu) (pB I.hok eb) hd dd ?_
  have q:=(rel.val k).isSome_eq
  rw [Option.isSome_map] at q
  rw [<-q,<-l]
  exact h _ (I.tok _)
def LB {Q:Aa}(hu:A.units+1<cLine) (I:Inv X pins U H s) (g:dS H a y o) (ry:RelV y u) (h:∀s',Inv X pins U H s'->Q (.bool (!o.isSome)) s') :
  wpAny (model X.prog X.w) A (compareOp .NotIn u (.ref a)) Q E s:=by
 rcases g with ⟨kvs,k,e,ey,l⟩|⟨kvs,k,b,e,ey,eb,l⟩
 ·subst ey
  obtain ⟨z,hd,vs,rel,dd⟩:=jR I.hok e
  refine wpAny_notIn_of (pA ry) hd dd.mapOf ?_
  rw [<-(rel.val k).isSome_eq,<-l]
  exact h _ (I.tok _)
 ·subst ey
  cases (show u=Value.ref b from ry)
  obtain ⟨z,hd,xs,rel,dd⟩:=pD I.hok e
  refine wpAny_notIn_heap (tupleKind_room_in1 hu) (pB I.hok eb) hd dd ?_
  have q:=(rel.val k).isSome_eq
  rw [Option.isSome_map] at q
  rw [<-q,<-l]
  exact h _ (I.tok _)
def zev {h':Heap}{t':Nat}{ob:HO}(I:Inv X pins U H s) (mu:oH (H a)) (hs:Heap.SameBut a s.heap h') (he:∃q,h'.get? a=some q) (new:aZ X.prog X.w (upd H a ob) h' a ob) :
  Inv X pins U (upd H a ob) { s with heap:=h',toks:=t' } :=
 I.write (x:=a) (e:=a) mu (.inl rfl) (λb q hb z=>(hs.2 b hb).trans z) he new
def LC {P:Program}{w:World}{H':Hp}{h':Heap}{kvs:List (Key×V)}{vs:List (Key×Value)}(z:kvs.length<=sizeLine) (hd:(a==sysModules)=false) (rel:KV kvs vs) (dd:h'.DictOf (bf P w) a vs) :
  aZ P w H' h' a (.dK kvs):=⟨z,hd,vs,rel,dd⟩
theorem vI {H':Hp}{Q:Unit->Shared->Prop}(hu:A.units+1<cLine) (I:Inv X pins U H s) (g:dU H a y v H') (ry:RelV y u) (rv:RelV v r) (h:∀s',Inv X pins U H' s'->Q () s') :
  wpAny (model X.prog X.w) A (setItem (.ref a) u r) Q E s:=by
 rcases g with ⟨kvs,k,e,ey,l,eH⟩|⟨kvs,k,b,e,ey,eb,l,eH⟩
 ·subst ey eH
  obtain ⟨z,hd,vs,rel,dd⟩:=CG I.hok e
  have hz:vs.length<=sizeLine:=by rw [<-rel.length];exact z
  have hl:(putK kvs k v).length<=sizeLine:=by have:=CD kvs k v;omega
  refine wpAny_setItem_pairs (hsz:=hz) (pA ry) dd λh' lY hs=>h _ ?_
  have he:∃q,h'.get? a=some q:=let ⟨q,_,_,hq,_⟩:=lY;⟨q,hq⟩
  exact zev I (by rw [e];exact True.intro) hs he (LC hl hd (rel.put k rv) lY)
 ·subst ey eH
  cases (show u=Value.ref b from ry)
  obtain ⟨z,hd,xs,rel,dd⟩:=Ly I.hok e
  have hz:xs.length<=sizeLine:=by rw [<-Paired.length rel];exact z
  have hl:(putK kvs k v).length<=sizeLine:=by have:=CD kvs k v;omega
  refine wpAny_setItem_heap (hsz:=hz) (tupleKind_room_in1 hu) (pB I.hok eb) dd λh' lY hs=>h _ ?_
  obtain ⟨q,es,ep,hq,h2,h3,h4,_,h5⟩:=lY
  refine zev I (by rw [e];exact True.intro) hs ⟨q,hq⟩ ⟨hl,hd,_,(rel.put k eb rv).keeps λc ys ec=>?_,q,es,ep,hq,h2,h3,h4,h5⟩
  rw [yc (Io ec e (λz=>nomatch z))]
  exact ec
end
section
variable {X:Cx}{pins:Ac}{U:St}{H:Hp}{s:Shared}{a:Addr}{kvs:List (Key×V)}{k:Key}{u:Value}{A:Around}{E:Aa}
theorem LD {Q:Aa} (I:Inv X pins U H s) (e:Rd H a (.dK kvs)) (h:∀t s',Inv X pins U H s'->Q (.int kvs.length t) s'):wpAny (model X.prog X.w) A (call (.builtin "len") [.ref a]) Q E s:=by
 obtain ⟨z,hd,vs,rel,dd⟩:=jR I.hok e
 refine call_len_dict hd dd (by rw [<-rel.length];rw [sizeLine_eq] at z;omega) ?_
 rw [<-rel.length]
 exact h _ _ (I.tok _)
end
def LG {X:Cx} {pins:Ac} {U:St} {H:Hp} {s:Shared} {a:Addr} {y:V} {o:Option V} (I:Inv X pins U H s) (g:dS H a y o):s.TypeIs (.ref a) "dict" := by
 rcases g with ⟨kvs,k,e,_,_⟩|⟨kvs,k,b,e,_,_,_⟩
 ·obtain ⟨_,_,vs,_,dd⟩:=jR I.hok e
  exact dd.typeIs
 ·obtain ⟨_,_,xs,_,dd⟩:=pD I.hok e
  exact dd.typeIs
def LH (td ty tv:TE):TS:=λD U H=>tv U H λv H1=>td U H1 λx H2=>ty U H2 λy H3=>∃a H4,x=.ref a/\dU H3 a y v H4/\D.nx U H4
section
variable {X:Cx}{o i e value:Expr}{pos pos' BM:Pos}{td ty tv:TE}
def LI (hu:X.A.units+1<cLine) (ho:PE X o td) (hi:PE X i ty) (hv:PE X value tv) (hs:swapsWith value (some (.Subscript o i pos')) pos.line X.env=pure false) :
  PS X (.Assign [.Subscript o i pos'] value pos) (LH td ty tv):=by
 intro pins s U H D I h
 refine wpAny_Assign_Subscript (aV (hv pins s U H _ I h) λr s1 ⟨v,H1,I1,rv,q1⟩=>aV (ho pins s1 U H1 _ I1 q1) λu s2 ⟨x,H2,I2,rx,q2⟩=>aV (hi pins s2 U H2 _ I2 q2) λiv s3 ⟨y,H3,I3,ry,a,H4,ex,g,q3⟩=>?_) hs
 subst ex
 obtain rfl:u=Value.ref a:=rx
 exact vI hu I3 g ry rv λs4 I4=>⟨U,H4,I4,q3⟩
end
def LJ {P:Program} {w:World} {H:Hp} (h:Heap) (hb:sysModules<h.objs.size):aZ P w H (h.push { cls:=.type "dict", data:=.dict #[] }) h.objs.size (.dK []) :=
 ⟨jj _,beq_eq_false_iff_ne.mpr (yC (yK hb)),[],.nil,Heap.DictOf.new h⟩
def LK:TE:=λ_ H Q=>∀p,H p=none->Q (.ref p) (upd H p (.dK []))
section
variable {X:Cx}{pos:Pos}
def LM:PE X (.Dict [] [] pos) LK:=λpins s U H Q I h =>
 wpAny_Dict_empty ⟨.ref s.heap.objs.size,_,I.laid (a:=s.heap.objs.size) (o:=.dK []) (t':=s.toks) (λ_ _ q=>yk _ q) (ye _) (LJ s.heap I.big),rfl,h _ (I.hok.fresh (ye _))⟩
end
structure M1 (X:Cx) (o:Expr) (m:Str) (apos:Pos) (e:Expr) (a_:Pos):Prop where
 base:attributeBase o m X.env (eval o X.env)=eval o X.env
 few:((backTo a_ (starEach [e] X.env)).all (λx=>!x.1)&&(backToKw a_ (keywordEach [] X.env)).all (λx=>x.1.isSome)
  && decide (([e]:List Expr).length+([]:List Keyword).length+(if ([]:List Keyword).isEmpty then 0 else 1)<30))=true
 line:(apos.endLine==a_.line)=true
 trees:backTo a_ (starEach [e] X.env)=[(false,eval e X.env)]
structure M2 (X:Cx) (o:Expr) (m:Str) (apos:Pos) (e f:Expr) (a_:Pos):Prop where
 base:attributeBase o m X.env (eval o X.env)=eval o X.env
 few:((backTo a_ (starEach [e,f] X.env)).all (λx=>!x.1)&&(backToKw a_ (keywordEach [] X.env)).all (λx=>x.1.isSome)
  && decide (([e,f]:List Expr).length+([]:List Keyword).length+(if ([]:List Keyword).isEmpty then 0 else 1)<30))=true
 line:(apos.endLine==a_.line)=true
 trees:backTo a_ (starEach [e,f] X.env)=[(false,eval e X.env),(false,eval f X.env)]
section
variable {X:Cx}{pins:Ac}{U:St}{H:Hp}{s:Shared}{a:Addr}{y d:V}{u r:Value}{o:Option V}{A:Around}{E:Aa}
end
section
variable {X:Cx}{o e f:Expr}{apos a_:Pos}{td ty tx:TE}
end
section
variable {X:Cx}{pins:Ac}{U:St}{H:Hp}{s:Shared}{a:Addr}{kvs:List (Key×V)}{A:Around}{E:Aa}
end
section
variable {X:Cx}{pins:Ac}{U:St}{H:Hp}{s:Shared}{a:Addr}{y:V}{u:Value}{A:Around}{E:Aa}
end
def XO (h:Heap) (a:Addr) (C:Value) (d:Option Addr) (head:Value):Prop :=
 ∃oe vs,h.get? a=some oe/\oe.cls=C/\oe.dict=d/\oe.data=.fields vs/\vs.size=6/\vs[1]?=some head
def TB (h:Heap) (T:Addr) (fl:Value):Prop:=∃oT ts,h.get? T=some oT/\oT.data=.fields ts/\ts[3]?=some fl
def LO (o:Obj) (f):(o.mapFields f).dict=o.dict:=by
 obtain ⟨c,d,dt,sl⟩:=o
 cases dt<;>rfl
def XO.keeps {h h':Heap}{a:Addr}{C:Value}{d:Option Addr}{head:Value}(x:XO h a C d head) (k:∀o,h.get? a=some o->h'.get? a=some o):XO h' a C d head:=by
 obtain ⟨oe,vs,e,r⟩:=x
 exact ⟨oe,vs,k _ e,r⟩
def TB.keeps {h h':Heap}{T:Addr}{fl:Value}(x:TB h T fl) (k:∀o,h.get? T=some o->h'.get? T=some o):TB h' T fl:=by
 obtain ⟨oT,ts,e,r⟩:=x
 exact ⟨oT,ts,k _ e,r⟩
theorem XO.set1 {h:Heap}{a:Addr}{C:Value}{d:Option Addr}{head:Value}(x:XO h a C d head) (u:Value):XO (h.update a (Obj.mapFields (·.setIfInBounds 1 u))) a C d u:=by
 obtain ⟨oe,vs,e,hc,nE,hd,hz,h1⟩:=x
 have gr:=Obj.data_mapFields hd (·.setIfInBounds 1 u)
 refine ⟨_,_,Heap.get?_update_self _ e (Obj.isFreed_of_fields gr),(Obj.cls_mapFields _ _).trans hc,(LO _ _).trans nE,gr,?_,?_⟩
 ·rw [Array.size_setIfInBounds];exact hz
 ·have:1<vs.size:=by omega
  simp [this]
def TB.set3 {h:Heap}{T:Addr}{fl:Value}(x:TB h T fl) (u:Value):TB (h.update T (Obj.mapFields (·.setIfInBounds 3 u))) T u:=by
 obtain ⟨oT,ts,e,hd,h3⟩:=x
 have gr:=Obj.data_mapFields hd (·.setIfInBounds 3 u)
 refine ⟨_,_,Heap.get?_update_self _ e (Obj.isFreed_of_fields gr),gr,?_⟩
 have:3<ts.size:=(Array.getElem?_eq_some_iff.mp h3).1
 simp [this]
section
variable {M:Model}{A:Around}{E:Aa}{s:Shared}{base:Heap}{env:Env}{outer:List Env}{L a:Addr}{C:Value}{d:Option Addr}{head:Value}{Q:Unit->Shared->Prop}
theorem CH {b2:Bool}(d0:A.frames=some (env::outer)) (hl:s.heap.FunFrames base (env::outer)) (hf:env.frame=some L) (x:XO s.heap a C d head)
  (h:∀h' T,s.heap.objs.size<=T->XO h' a C d (.ref T)->TB h' T (rawInt L)->(∀b o,b≠a->b∉cT (env::outer)->s.heap.get? b=some o->h'.get? b=some o) ->
   (∀b o,b≠a->b∈cT (env::outer)->s.heap.get? b=some o->∃sl,h'.get? b=some { o with slots:=sl })->Q () { s with heap:=h' }) :
  wpAny M A (do let fr <-frameOf env;let pl <-entryPlaceOf L b2;let tb <-EntryCells.newEntry head fr .none (rawInt L) .none pl;setField (.ref a) 1 tb) Q E s:=by
 obtain ⟨oe,vs,e,hc,nE,hd,hz,h1⟩:=id x
 have aN:a∉cT (env::outer):=λhm=>by
  obtain ⟨_,o,ho,nf⟩:=hl.mem hm
  rw [e] at ho
  cases ho
  exact nf vs hd
 refine zt (wpAny_frameOf_fun d0 hl hf λg1 rV=>zt (wpAny_entryPlaceOf λpl CI=>?_))
 unfold EntryCells.newEntry newFields
 refine zt (hW ?_ (CI.sizeOk5 _ _ _ _ _))
 have x1:XO g1 a C d head:=⟨oe,vs,(rV.2.1 a aN).trans e,hc,nE,hd,hz,h1⟩
 generalize nF:({ cls:=.type "traceback", dict:=none,data:=.fields ([head,.ref L,.none,rawInt L,.none]++(if pl.isEmpty then List.replicate 6 Value.none else pl)).toArray }:Obj)=ob
 have x2:XO (g1.push ob) a C d head:=x1.keeps λo q=>yk _ q
 obtain ⟨XX,ky,e2,_,_,hd2,XY,_⟩:=id x2
 refine wpAny_setField e2 hd2 (by omega) ?_
 have aT:g1.objs.size≠a:=λz=>by
  obtain ⟨_,_,q,_⟩:=x1
  have:=ym q
  rw [<-z] at this
  exact Nat.lt_irrefl _ this
 have CJ:s.heap.objs.size<=g1.objs.size:=Nat.le_of_eq rV.1.symm
 refine h _ g1.objs.size CJ (x2.set1 _) ?_ (λb o nb nf q=>?_) (λb o nb nf q=>?_)
 ·have t0:TB (g1.push ob) g1.objs.size (rawInt L):=by
   refine ⟨ob,_,yY _ (by rw [<-nF];rfl),by rw [<-nF],?_⟩
   rcases CI with rfl|⟨_,_,_,_,_,_,_,rfl⟩<;>simp
  exact t0.keeps λo q=>(wK _ _ (yC aT)).trans q
 ·exact (wK _ _ (yC nb)).trans (yk _ ((rV.2.1 b nf).trans q))
 ·obtain ⟨sl,z⟩:=rV.2.2 b o q
  exact ⟨sl,(wK _ _ (yC nb)).trans (yk _ z)⟩
def LQ (d0:A.frames=some (env::outer)) (hl:s.heap.FunFrames base (env::outer)) (hf:env.frame=some L) (x:XO s.heap a C d head)
  (ht:head=.none\/∃T0,head=.ref T0/\T0≠a/\TB s.heap T0 .none)
  (h:∀h' T,s.heap.objs.size<=T->XO h' a C d (.ref T)->TB h' T (rawInt L)->(∀b o,b≠a->.ref b≠head->b∉cT (env::outer)->s.heap.get? b=some o->h'.get? b=some o) ->
   (∀b o,b∈cT (env::outer)->s.heap.get? b=some o->∃sl,h'.get? b=some { o with slots:=sl })->Q () { s with heap:=h' }) :
  wpAny M A (noteFrame (.ref a) env) Q E s:=by
 obtain ⟨oe,vs,e,hc,nE,hd,hz,h1⟩:=id x
 have aN:a∉cT (env::outer):=λhm=>by
  obtain ⟨_,o,ho,nf⟩:=hl.mem hm
  rw [e] at ho
  cases ho
  exact nf vs hd
 unfold noteFrame
 simp only [hf]
 refine zt (jc e hd h1 ?_)
 rcases ht with rfl|⟨T0,rfl,nT,t0⟩
 ·rw [zH (by decide)]
  exact CH d0 hl hf x λh' T k1 k2 k3 k4 k5=>h h' T k1 k2 k3 (λb o nb _ nf q=>k4 b o nb nf q) λb o hb q=>k5 b o (λz=>aN (z▸hb)) hb q
 ·obtain ⟨oT,ts,eT,hdT,h3⟩:=id t0
  have TN:T0∉cT (env::outer):=λhm=>by
   obtain ⟨_,o,ho,nf⟩:=hl.mem hm
   rw [eT] at ho
   cases ho
   exact nf ts hdT
  rw [zx (show (Value.ref T0 != Value.none)=true from by simp)]
  refine zt (jc eT hdT h3 ?_)
  rw [zH (show ¬((Value.none==rawInt L)=true) from by simp [rawInt])]
  refine zt (wpAny_setField eT hdT (Array.getElem?_eq_some_iff.mp h3).1 ?_)
  have lZ:∀b,b≠T0->(s.heap.update T0 (Obj.mapFields (·.setIfInBounds 3 Value.none))).get? b=s.heap.get? b:=λb hb=>wK _ _ (yC hb)
  refine CH (s:={ s with heap:=s.heap.update T0 (Obj.mapFields (·.setIfInBounds 3 Value.none)) }) d0 (hl.of_keeps λb o hb nf=>⟨o,(lZ b λq=>?_).trans hb,rfl⟩) hf (x.keeps λo q=>(lZ a (yC nT)).trans q) λh' T k1 k2 k3 k4 k5 =>
   h h' T (by simpa using k1) k2 k3 (λb o nb nh nf q=>k4 b o nb nf ((lZ b λz=>nh (by rw [z])).trans q)) λb o hb q=>k5 b o (λz=>aN (z▸hb)) hb ((lZ b λz=>TN (z▸hb)).trans q)
  rw [q,eT] at hb
  cases hb
  exact nf ts hdT
def LR {T:Addr}{fl:Value}(x:XO s.heap a C d (.ref T)) (t:TB s.heap T fl) (ne:T≠a)
  (h:∀h',XO h' a C d (.ref T)->TB h' T .none->(∀b o,b≠T->s.heap.get? b=some o->h'.get? b=some o)->h'.objs.size=s.heap.objs.size->Q () { s with heap:=h' }):wpAny M A (setFlight (.ref a) none) Q E s:=by
 obtain ⟨oe,vs,e,_,_,hd,_,h1⟩:=id x
 obtain ⟨oT,ts,eT,hdT,h3⟩:=id t
 unfold setFlight
 refine zt (jc e hd h1 ?_)
 rw [zx (show (Value.ref T != Value.none)=true from by simp)]
 refine wpAny_setField eT hdT (Array.getElem?_eq_some_iff.mp h3).1 ?_
 exact h _ (x.keeps λo q=>(wK _ _ ne).trans q) (t.set3 _) (λb o nb q=>(wK _ _ (yC nb)).trans q) (by simp)
end
def bj (X:Cx) (pins:Ac) (H:Hp) (b:Addr):Prop :=
 H b=none/\X.s₀.heap.objs.size<=b/\b≠X.env.locals/\(∀x c,X.env.cells.lookup x=some c->c≠b)/\∀p∈X.pn++pins,p.1≠b
def bj.new {X:Cx}{pins:Ac}{U:St}{H H':Hp}{s:Shared}{b:Addr}(I:Inv X pins U H s) (hb:s.heap.objs.size<=b) (hn:H' b=none):bj X pins H' b:=by
 obtain ⟨f0,f1,f2,f3,f4,f5⟩:=I.fpOk (H':=H') hb hn
 exact ⟨hn,y4 I.sz hb,f1,f4,f5⟩
def rW (X:Cx) (pins:Ac) (H:Hp) (h:Heap) (a C:Addr) (d:Option Addr):Prop :=
 ∃head,XO h a (.ref C) d head/\bj X pins H a/\(head=.none\/∃T,head=.ref T/\T≠a/\TB h T .none/\bj X pins H T)
def Throws (X:Cx) (E:XK):Prop:=∀(pins:Ac) (U:St) (H:Hp) (s:Shared) (a C:Addr) (d:Option Addr),Inv X pins U H s->rW X pins H s.heap a C d->E (.ref C) d H->X.xe (.ref a) s
def cj (P:Program) (w:World):dY:=λouter H s E e s'=>∃(a C T:Addr) (d:Option Addr) (H':Hp),e=.ref a/\s'.os=s.os/\AllBare s'.gens/\Un (cT outer) [] H H' s.heap s'.heap/\bZ P w H' s'.heap /\
 XO s'.heap a (.ref C) d (.ref T)/\T≠a/\TB s'.heap T .none/\(s.heap.objs.size<=a/\H' a=none)/\(s.heap.objs.size<=T/\H' T=none)/\E (.ref C) d H'
def LS {X:Cx}{E:XK}(t:Throws X E):Passes (cj X.prog X.w) X E:=by
 rintro pins U H s e s' I ⟨a,C,T,d,H',rfl,os,bare,un,hok,x,ne,tb,⟨a1,a2⟩,⟨t1,t2⟩,q⟩
 have I':Inv X pins U H' s':=I.call' (ch:=[]) os un hok bare λb z=>absurd z (by simp)
 exact t pins U H' s' a C d I' ⟨_,x,bj.new I a1 a2,.inr ⟨T,rfl,ne,tb,bj.new I t1 t2⟩⟩ q
def gE (a:Addr):Value->Ae
 | .ref T0=>[a,T0]
 | _=>[a]
def CK (a:Addr) (v:Value):a∈gE a v:=by cases v<;>simp [gE]
def CL (a T0:Addr):T0∈gE a (.ref T0):=by simp [gE]
section
variable {X:Cx}{pins:Ac}{U:St}{H:Hp}{s:Shared}{a C:Addr}{d:Option Addr}{A:Around}{E:Aa}{Q:Unit->Shared->Prop}
def CN (I:Inv X pins U H s) (d0:A.frames=some X.stack) (bH:X.stack=X.env::X.outer) (hf:X.env.frame=some X.env.locals) (F:rW X pins H s.heap a C d)
  (h:∀s' T,Inv X pins U H s'->XO s'.heap a (.ref C) d (.ref T)->T≠a->TB s'.heap T (rawInt X.env.locals)->bj X pins H a->bj X pins H T->Q () s'):wpAny (model X.prog X.w) A (noteFrame (.ref a) X.env) Q E s:=by
 obtain ⟨head,x,oa,ht⟩:=F
 have hl:s.heap.FunFrames X.base (X.env::X.outer):=bH▸I.stack
 have CO:A.frames=some (X.env::X.outer):=d0.trans (congrArg some bH)
 have CP:cT (X.env::X.outer)=X.env.locals::X.fs:=by
  unfold cT
  rw [List.filterMap_cons,hf]
  rfl
 have ie:∀b∈X.env.locals::X.fs,H b=none:=λb hb=>I.stkFree b (by rw [bH,CP];exact hb)
 have vJ:∀b u,H b=some u->Value.ref b≠head:=λb u e z=>by
  rcases ht with rfl|⟨T0,rfl,_,_,r⟩
  ·cases z
  ·cases z
   rw [r.1] at e
   cases e
 refine LQ CO hl hf x (ht.imp id λ⟨T0,e1,e2,e3,_⟩=>⟨T0,e1,e2,e3⟩) λh' T k1 k2 k3 k4 k5=>?_
 rw [CP] at k4 k5
 have oT:bj X pins H T:=bj.new I k1 (I.hok.fresh k1)
 have neT:T≠a:=λz=>by
  obtain ⟨_,_,e,_⟩:=x
  have:=ym e
  rw [<-z] at this
  exact Nat.lt_irrefl _ (jm this k1)
 refine h { s with heap:=h' } T ?_ k2 neT k3 oa oT
 refine I.step (g':=s.gens) (t':=s.toks) (d':=s.drawn) (ch:=gE a head) (λb hb=>?_) (λb o n1 n2 n3 e n=>k4 b o (λz=>n3 ?_) (λz=>n3 ?_) (λz=>(yF.mp z).elim n1 n2) e)
  (λb o n1 n2 n3 e n=>k5 b o (jq _ n2) e) (λ_ _ _ _ n=>n) (λb o n3 e=>?_) (λ_ _ e=>e) (λ_ _ _ e=>e) (λb ps e=>⟨#[],by rw [e];simp⟩) (λm hm=>?_) (λb u e=>?_) I.bare
 ·have own:bj X pins H b:=by
   rcases ht with rfl|⟨T0,rfl,_,_,r⟩
   ·have z:b=a:=by simpa [gE] using hb
    rw [z];exact oa
   ·have z:b=a\/b=T0:=by simpa [gE] using hb
    rcases z with z|z
    ·rw [z];exact oa
    ·rw [z];exact r
  exact ⟨.inr own.2.1,own.2.2.1,own.2.2.2.1,own.2.2.2.2⟩
 ·rw [z]
  exact CK a head
 ·rw [<-z]
  exact CL a b
 ·by_cases hb:b∈X.env.locals::X.fs
  ·obtain ⟨sl,z⟩:=k5 b o hb e
   exact ⟨_,z⟩
  ·exact ⟨o,k4 b o (λz=>n3 (by rw [z];exact CK a head)) (λz=>n3 (by rw [<-z];exact CL a b)) hb e⟩
 ·obtain ⟨o,es,ep,ho,r⟩:=hm
  obtain ⟨sl,z⟩:=k5 _ o jd ho
  exact ⟨_,es,ep,z,r⟩
 ·refine (I.hok b u e).stay (λc v hc q=>?_) (λ_ q=>q) λ_ _ q=>q
  have tr:∃u',H c=some u':=by
   rcases hc with z|z
   ·exact ⟨u,by rw [z];exact e⟩
   ·exact ⟨_,z⟩
  obtain ⟨u',eu⟩:=tr
  exact k4 c v (λz=>by rw [z,oa.1] at eu;cases eu) (vJ c u' eu) (λz=>by rw [ie c z] at eu;cases eu) q
def vK {T:Addr}{fl:Value}(I:Inv X pins U H s) (x:XO s.heap a (.ref C) d (.ref T)) (ne:T≠a) (tb:TB s.heap T fl) (oa:bj X pins H a) (oT:bj X pins H T)
  (h:∀s',Inv X pins U H s'->XO s'.heap a (.ref C) d (.ref T)->TB s'.heap T .none->Q () s'):wpAny (model X.prog X.w) A (setFlight (.ref a) none) Q E s:=by
 refine LR x tb ne λh' k1 k2 k3 _=>h { s with heap:=h' } ?_ k1 k2
 exact I.turned (t':=s.toks) (it:=T) (λb o nb e=>k3 b o nb e) oT.1 oT.2.2.1 (.inr oT.2.1) oT.2.2.2.1 oT.2.2.2.2
end
section
variable {P:Program}{w:World}{K:PySem.W.Frag}{mg:Ab}{base:Heap}
def dZ.okX {x qual:Str}{st:Stmt}{f:Addr}{fd:FuncData}{N ps:Ad}{k:Nat}{sp:Sp}(F:dZ K x qual st f fd) (S:au N ps (zF st)) (len:∀vs H Q E,sp vs H Q E->vs.length=ps.length)
  (fz:∀(aX:Value) (A:Around) (outer:List Env) (s:Shared) (H:Hp) (vs:List V) (Q:VK) (E:XK),aY k (A.deeper (envOfC qual (zF st) s.heap.objs.size f aX))->sp vs H Q E ->
   ∃t,cy (dy (cj P w) P w K mg base N qual (zF st) f aX A outer s H E) (jo st) t/\t { nx:=λ_ H'=>Q .non H',rt:=Q } (start N vs) H):br P w K mg base (cj P w) (k+1) f fd ps sp:=by
 obtain ⟨oc,od,kV,doc,pm,an,aX,ct,fy,rfl,lk,fX⟩:=F.ex
 exact B0 lk fX S len λA outer s H vs Q E hr gW=>fz aX A outer s H vs Q E hr gW
end
end L2
namespace L2
open PySem PySem.Spec PyProof.Rows PySem.W PySem.Builtin PySem.Builtin.ObjectAttr
def fL:List Value->Bool
 | [.type a,.type b,.type c,.type d]=>a == "ValueError" && b == "Exception" && c == "BaseException" && d == "object"
 | .ref _::r=>fL r
 | _=>false
def iE (K:Frag) (C:Addr):Bool:=(clsIn K C).any λcd=>fL cd.mro
section
variable {prog:Program}{w:World}{A:Around}{E:Aa}{K:Frag}{x C:Addr}{s:Shared}{R:Result->Shared->Prop}
end
section
variable {prog:Program}{w:World}{A:Around}{h:Heap}{g:Array GenState}{d:Drawn}{t:Nat}{os:OsState}{R:Result->Shared->Prop}
variable {nm q:Str}{C N f:Addr}{bs bm LU:Af}{dj:Bool}{sn:Ad}{sub:Af}{ab:Bool}{col:Option Bool}{dd:Option Addr}{k0 k1 k2 k3 k5:Option Value}{B newId rX:String}
end
def rY (C t:Addr) (d:Option Addr) (a:Addr):HO:=.ext λ_ _ h=>h.get? a=some { cls:=.ref C,dict:=d,data:=.fields #[.ref t,.none,.none,.none,.bool false,.none] }
structure l6 (K:PySem.W.Frag) (C:Addr) (f:Str):Prop where
 sa:PySem.W.findIn K (.ref C) "__setattr__" = some (some (.builtin "object.__setattr__"))
 line:iE K C=true
 no:PySem.W.takerIn K C f=some none
 hd:PySem.W.hasDictIn K C=true
def LV (K:PySem.W.Frag) (ta tv:TE) (f:Str):TS:=λD U H=>tv U H λy H1=>ta U H1 λx H2=>∃a C t,x=.ref a/\H2 a=some (rY C t none a)/\l6 K C f /\
 ∀d,H2 d=none->D.nx U (upd (upd H2 d (.xd [(f,y)])) a (rY C t (some d) a))
abbrev dk:Af:=[.type "ValueError", .type "Exception", .type "BaseException", .type "object"]
structure kA (K:Frag) (C:Addr):Prop where
 ob:∃nm q N bs bm dj sn sub ab col dd k0 k1 k2 k3 k5,K.lookup C=some (excClassObj nm q C N bs bm dj sn sub ab col dd k0 k1 k2 k3 k5 "ValueError.__new__")/\tailIn K dk bm=true/\nsOkIn K N=true
 kp:keepIn K (.ref C)=true
structure gF (K:Frag) (C f:Addr):Prop where
 ob:∃nm q N bs bm dj sn sub ab col dd k0 k1 k2 k3 k5,K.lookup C=some (excClassObj nm q C N bs bm dj sn sub ab col dd k0 k1 k2 k3 k5 "ValueError.__new__")/\tailIn K dk bm=true/\nsOkIn K N=true/\nsIn K N "__init__" = some (some (.ref f))
 fn:isFn K (.ref f)=true
 kp:keepIn K (.ref C)=true
def gF.of {K:Frag}{C f:Addr}(x:gF K C f):kA K C:=by
 obtain ⟨⟨nm,q,N,bs,bm,dj,sn,sub,ab,col,dd,k0,k1,k2,k3,k5,a,b,c,_⟩,_,k⟩:=x
 exact ⟨⟨nm,q,N,bs,bm,dj,sn,sub,ab,col,dd,k0,k1,k2,k3,k5,a,b,c⟩,k⟩
section
variable {M:Model}{A:Around}{E:Aa}{env:Env}{s:Shared}
end
section
variable {X:Cx}{CX:dY}{k:Nat}{f C:Addr}{fd:FuncData}{ps:Ad}{sp:Sp}{E:XK}
def LW (C:Addr) (f:Str):Sp:=λvs H Q _=>∃a t y,vs=[.ref a,y]/\H a=some (rY C t none a)/\∀d,H d=none->Q .non (upd (upd H d (.xd [(f,y)])) a (rY C t (some d) a))
end
def XP (X:Cx) (pins:Ac) (U:St) (E:XK) (u:Value) (s':Shared):Prop:=∃(a C:Addr) (d:Option Addr) (H':Hp),u=.ref a/\Inv X pins U H' s'/\rW X pins H' s'.heap a C d/\E (.ref C) d H'
abbrev TX:=St->Hp->VK->XK->Prop
def PX (X:Cx) (e:Expr) (t:TX):Prop :=
 ∀(pins:Ac) (s:Shared) (U:St) (H:Hp) (Q:VK) (E:XK),Inv X pins U H s->t U H Q E->wpAny (model X.prog X.w) X.A (eval e X.env) (EP X pins U Q) (XP X pins U E) s
section
variable {X:Cx}{k:Nat}{f C:Addr}{fd:FuncData}{ps:Ad}{sp:Sp}{dw:List V}{ds:Af}{E:XK}{x m:Str}{p pos apos:Pos}{e o:Expr}{es:List Expr}{ta:TE}{t:TA}
def LX {pins:Ac}{U:St}{H:Hp}{s:Shared}{Q:VK}{us:Af}{vs:List V}(F:br X.prog X.w X.K X.mg X.base (cj X.prog X.w) k f fd ps sp) (hr:aY k X.A) (hb:Binds X.K fd ps ds) (hd:Vals dw ds)
  (I:Inv X pins U H s) (r:Vals vs us) (h:sp (vs++dw) H Q E):wpAny (model X.prog X.w) X.A (call (.ref f) us) (EP X pins U Q) (XP X pins U E) s:=by
 have r2:Vals (vs++dw) (us++ds):=r.append hd
 have hl:(us++ds).length=ps.length:=by rw [<-r2.length];exact F.len _ _ _ _ h
 refine wpAny_call (codeAny_mono (F.run X.A X.stack s H ⟨us,[]⟩ (us++ds) (vs++dw) Q E hr I.env0 (hb s us I.kIn hl) r2 h) λr s' hq=>?_)
 cases r with
 | error e =>
  obtain ⟨a,C,T,d,H',rfl,os,bare,un,hok,x,ne,tb,⟨a1,a2⟩,⟨t1,t2⟩,q⟩:=hq
  have I':Inv X pins U H' s':=I.call' (ch:=[]) os un hok bare λb z=>absurd z (by simp)
  exact ⟨a,C,d,H',rfl,I',⟨_,x,bj.new I a1 a2,.inr ⟨T,rfl,ne,tb,bj.new I t1 t2⟩⟩,q⟩
 | ok fl =>
  cases fl with
  | ret u=>exact I.after hq
  | next=>exact hq.elim
  | brk=>exact hq.elim
  | cont=>exact hq.elim
end
def gG (C:Addr) (d:Option Addr) (a:Addr):HO:=.ext λ_ _ h=>∃T:Addr,XO h a (.ref C) d (.ref T)
abbrev Cx.caught (X:Cx) (a:Addr):Cx:={ X with A:=X.A.mark (some (.ref a)),calm:=false,xe:=λ_ _=>False }
section
variable {X:Cx}{pins:Ac}{U:St}{H:Hp}{s:Shared}{a C:Addr}{d:Option Addr}
def Inv.caught (I:Inv X pins U H s) (a:Addr):Inv (X.caught a) pins U H s :=
 ⟨⟨I.ok.mod,I.ok.kind,I.ok.glob,I.ok.blt,I.ok.above,I.ok.inj,I.ok.has,I.ok.cab,(λz=>nomatch z),I.ok.frames,I.ok.stk,I.ok.exf,I.ok.bs,I.ok.bsz,I.ok.noex,I.ok.exfs,I.ok.funs,I.ok.frf⟩,I.os,I.bare,I.base,I.loc,I.cell,I.free,I.freeC,I.pin,I.hok,I.len⟩
def Inv.uncaught (J:X.Ok) (I:Inv (X.caught a) pins U H s):Inv X pins U H s:=⟨J,I.os,I.bare,I.base,I.loc,I.cell,I.free,I.freeC,I.pin,I.hok,I.len⟩
def Inv.track {o:HO}(I:Inv X pins U H s) (ow:bj X pins H a) (new:aZ X.prog X.w (upd H a o) s.heap a o):Inv X pins U (upd H a o) s:=by
 have ne:∀b u,H b=some u->b≠a:=λb u e z=>by rw [z,ow.1] at e;cases e
 have t:=I.step (h':=s.heap) (H':=upd H a o) (g':=s.gens) (t':=s.toks) (d':=s.drawn) (ch:=[a]) (λb hb=>?_) (λb u _ _ _ e _=>e) (λb u _ _ _ e _=>⟨u.slots,e⟩) (λb u nb e n=>?_) (λb u _ e=>⟨u,e⟩) (λb xs e=>?_) (λb u v e=>?_) (λb ps e=>?_) (λm hm=>hm) (λb u e=>?_) I.bare
 ·exact t
 ·have z:b=a:=by simpa using hb
  rw [z]
  exact ⟨.inr ow.2.1,ow.2.2.1,ow.2.2.2.1,ow.2.2.2.2⟩
 ·rw [yc (λz=>nb (by simp [z]))];exact n
 ·rw [yc (ne b _ e)];exact e
 ·rw [yc (ne b _ e)];exact e
 ·exact ⟨#[],by rw [yc (ne b _ e),e];simp⟩
 ·by_cases z:b=a
  ·rw [z] at e ⊢
   rw [y0] at e
   cases e
   exact new
  ·rw [yc z] at e
   exact (I.hok b u e).stay (λ_ _ _ q=>q) (λc q=>by rw [yc (ne c _ q)];exact q) λc xs q=>by rw [yc (ne c _ q)];exact q
def Inv.catch {T:Addr}(I:Inv X pins U H s) (ow:bj X pins H a) (x:XO s.heap a (.ref C) d (.ref T)):Inv X pins U (upd H a (gG C d a)) s :=
 Inv.track I ow ⟨⟨T,x⟩,(let ⟨oe,_,e,_⟩:=x;⟨oe,e⟩),λh1 h2 p k=>let ⟨T,z⟩:=p;⟨T,z.keeps λo q=>k o q⟩⟩
def CQ {M:Model}{A:Around}{E:Aa}{j:Nat}{n:Str}{pos:Pos}{Q:Unit->Shared->Prop}(I:Inv X pins U H s) (hN:X.N.Nodup) (hj:X.N[j]?=some n) (hk:X.env.scope.names.lookup n=some .local)
  (h:∀s',Inv X pins (U.set j none) H s'->Q () s'):wpAny M A (do bindName X.env n .none;unbindBehindTheSuite X.env n pos) Q E s:=by
 obtain ⟨m,hn,hl⟩:=id I.loc
 have ke:(X.env.scope.kind == .class||(X.env.scope.kind == .module&&X.env.locals != X.env.globals))=false:=by rw [I.ok.kind];rfl
 have aH:j<U.length:=by rw [I.len];exact (yv.mp hj).1
 have cne:=I.cne
 obtain ⟨oL,_,_,Bt,_⟩:=id hn
 refine wpAny_nameGoes_keeps hk hn ke λh' v oP hs=>?_
 refine h _ ⟨I.ok,I.os,I.bare,⟨λb o e n hb hx=>?_,λb o e n hb hx=>?_,I.base.free,λb o e hx=>?_,I.base.tups,I.base.frzs,I.base.tbls⟩,⟨_,oP,λi y v' e1 e2 e3=>?_⟩,λy c e=>?_,I.free,I.freeC,λp hp=>?_,λb ob e=>?_,by simpa using I.len⟩
 ·exact (hs.2 b (yK (jm (ym e) I.ok.above))).trans (I.base.keep b o e n hb hx)
 ·obtain ⟨sl,e1⟩:=I.base.slot b o e n hb hx
  exact ⟨sl,(hs.2 b (yK (jm (ym e) I.ok.above))).trans e1⟩
 ·obtain ⟨o',e1⟩:=I.base.there b o e hx
  exact ⟨o',(hs.2 b (yK (jm (ym e) I.ok.above))).trans e1⟩
 ·by_cases hi:i=j
  ·subst hi
   rw [yM aH] at e2
   cases e2
  ·rw [yh (yC hi)] at e2
   obtain ⟨u',r',q⟩:=hl i y v' e1 e2 e3
   refine ⟨u',r',?_⟩
   rcases q with ⟨k,e⟩|⟨k,c,e,z⟩
   ·refine .inl ⟨k,?_⟩
    have:y≠n:=λe=>hi (uV hN e1 (e▸hj))
    simp [this,e]
   ·exact .inr ⟨k,c,e,z.sameBut hs (cne y c e)⟩
 ·obtain ⟨w',z⟩:=I.cell y c e
  exact ⟨w',z.sameBut hs (cne y c e)⟩
 ·obtain ⟨e,n,ne,nf,d⟩:=I.pin p hp
  exact ⟨(hs.2 p.1 ne).trans e,n,ne,nf,d⟩
 ·refine (I.hok b ob e).stay (λc w' hc q=>(hs.2 c ?_).trans q) (λ_ q=>q) λ_ _ q=>q
  rintro rfl
  rcases hc with rfl|hc
  ·rw [I.free] at e;cases e
  ·rw [I.free] at hc;cases hc
end
section
variable {X:Cx}{pins:Ac}{U:St}{H:Hp}{s:Shared}{a C d:Addr}{fs:List (Str×V)}{A:Around}{E:Aa}
def CS (I:Inv X pins U H s) (ha:H a=some (gG C (some d) a)) (hd:H d=some (.xd fs)):∃ox od,InstAt s.heap a ox C (some od)/\∀n,∃o,lookIn n od=some o/\cE (fs.lookup n) o:=by
 obtain ⟨T,oe,vs,e,hc,nE,vL,_⟩:=(show aZ X.prog X.w H s.heap a (gG C (some d) a) from I.hok a _ ha).1
 obtain ⟨mA,hn,r⟩:=(show aZ X.prog X.w H s.heap d (.xd fs) from I.hok d _ hd)
 obtain ⟨od,ho,hl⟩:=BI hn
 refine ⟨oe,od,⟨e,hc,by unfold notCls;rw [vL],by rw [nE];exact ho⟩,λn=>⟨mA n,hl n,r n⟩⟩
end
def gF.mk' {K:Frag}{C B N f:Addr}{nm q:Str}{bs:Af}{dj:Bool}{sn:Ad}{sub:Af}{ab:Bool}{col:Option Bool}{dd:Option Addr}{k0 k1 k2 k3 k5:Option Value}{c:Value}{d:Option Addr}{es:Array DictEntry}{n:Nat}{sl:Array (Option Value)}
  (hC:K.lookup C=some (excClassObj nm q C N bs (.ref B::dk) dj sn sub ab col dd k0 k1 k2 k3 k5 "ValueError.__new__")) (hB:excIn K B dk "ValueError.__new__" = true)
  (hN:K.lookup N=some ⟨c,d,.dict es n,sl⟩) (he:(es.all λe=>match e.key with | .str _ _=>true|_=>false)=true) (hi:nsIn K N "__init__" = some (some (.ref f))) (fn:isFn K (.ref f)=true) (kp:keepIn K (.ref C)=true):gF K C f:=by
 refine ⟨⟨nm,q,N,bs,_,dj,sn,sub,ab,col,dd,k0,k1,k2,k3,k5,hC,?_,?_,hi⟩,fn,kp⟩
 ·unfold excIn at hB
  split at hB
  ·rename_i dd cd sl ho
   split at hB
   ·simp only [ia,beq_iff_eq,Bool.not_eq_true'] at hB
    obtain ⟨⟨_,hok⟩,LY⟩:=hB
    unfold tailIn
    dsimp only
    rw [ho]
    have t0:tailIn K dk dk=true:=by unfold tailIn;rw [beq_self_eq_true,Bool.true_or]
    simp only [hok,LY,beq_self_eq_true,Bool.true_and,t0,Bool.or_true]
   ·cases hB
  ·cases hB
 ·unfold nsOkIn
  rw [hN]
  exact he
def LZ (X:Cx) (CX:dY) (k:Nat) (f:Addr) (sp:Sp):Prop:=∃fd ps,br X.prog X.w X.K X.mg X.base CX k f fd ps sp/\keepIn X.K (.ref f)=true/\Binds X.K fd ps []
def L3 (X:Cx) (CX:dY) (k:Nat) (E:XK) (tf:TE) (t:TA):TE:=λU H Q=>tf U H λv H0=>∃f sp,v=.ref f/\LZ X CX k f sp/\t U H0 λvs H1=>sp vs H1 Q E
def L4 {X:Cx}{CX:dY}{k:Nat}{E:XK}{x:Str}{p pos:Pos}{e:Expr}{es:List Expr}{tf:TE}{t:TA}(hf:PE X (.Name x p) tf) (hr:aY k X.A) (hx:Passes CX X E) (ha:PA X (e::es) t)
  (he:starEach (e::es) X.env=(false,eval e X.env)::starEach es X.env:=by rfl) (bu:(backTo pos (starEach es X.env)).any (·.1)=false:=by rfl):PE X (.Call (.Name x p) (e::es) [] pos) (L3 X CX k E tf t):=by
 intro pins s U H Q I h
 refine wpAny_Call_Name_kw (aV (hf pins s U H _ I h) λu s1 ⟨v,H0,I0,rv,f,sp,ev,⟨fd,ps,F,hk,hb⟩,q⟩=>?_)
 subst ev
 obtain rfl:u=Value.ref f:=rv
 refine PySem.W.callWith_K (h₀:=X.base) I.ok.mod.kin hk (aV (ha pos pins s1 U H0 _ I0 q) λus s2 ⟨vs,H1,I1,r,q1⟩=>⟨I1.kIn,?_⟩) he bu
 exact rO F hr hb .nil hx I1 r (by rw [List.append_nil];exact q1)
section
variable {prog:Program}{w:World}{A:Around}{E:Aa}{h:Heap}{g:Array GenState}{d:Drawn}{t:Nat}{os:OsState}
variable {nm q:Str}{C N:Addr}{bs bm LU:Af}{dj:Bool}{sn:Ad}{sub:Af}{ab:Bool}{col:Option Bool}{dd:Option Addr}{k0 k1 k2 k3 k5:Option Value}{B newId rX:String}
end
def pG (C:Addr) (Er:XK):TS:=λ_ _ H=>Er (.ref C) none H
end L2
namespace L2
open PySem PySem.Spec PyProof.Rows PySem.W
def vM (X:Cx) (pins:Ac) (H:Hp) (h:Heap) (a C:Addr) (d:Option Addr):Prop :=
 ∃T,XO h a (.ref C) d (.ref T)/\T≠a/\TB h T (rawInt X.env.locals)/\bj X pins H a/\bj X pins H T
def vN (X:Cx) (pins:Ac) (H:Hp) (h:Heap) (a C:Addr) (d:Option Addr):Prop:=rW X pins H h a C d\/vM X pins H h a C d
def j7 (X:Cx) (E:XK):Prop:=∀(pins:Ac) (U:St) (H:Hp) (s:Shared) (a C:Addr) (d:Option Addr),Inv X pins U H s->vN X pins H s.heap a C d->E (.ref C) d H->X.xe (.ref a) s
def j7.one {X:Cx}{E:XK}(t:j7 X E):Throws X E:=λpins U H s a C d I F q=>t pins U H s a C d I (.inl F) q
def XA (X:Cx) (Er:XK) (e:Value) (s:Shared):Prop:=∃(pins:Ac) (U:St) (H:Hp) (a C:Addr) (d:Option Addr),e=.ref a/\Inv X pins U H s/\vN X pins H s.heap a C d/\Er (.ref C) d H
section
variable {X:Cx}{pins:Ac}{U:St}{H:Hp}{s:Shared}{a C:Addr}{d:Option Addr}{A:Around}{E:Aa}{Q:Unit->Shared->Prop}{Er:XK}
def zK:j7 (X.wish (XA X Er)) Er:=λpins U H s a C d I F q=>⟨pins,U,H,a,C,d,rfl,I.unwish,F,q⟩
def CT (I:Inv X pins U H s) (d0:A.frames=some X.stack) (bH:X.stack=X.env::X.outer) (hf:X.env.frame=some X.env.locals) (F:vN X pins H s.heap a C d)
  (h:∀s' T,Inv X pins U H s'->XO s'.heap a (.ref C) d (.ref T)->T≠a->TB s'.heap T (rawInt X.env.locals)->bj X pins H a->bj X pins H T->Q () s'):wpAny (model X.prog X.w) A (noteFrame (.ref a) X.env) Q E s:=by
 rcases F with F|⟨T,x,ne,tb,oa,oT⟩
 ·exact CN I d0 bH hf F h
 ·obtain ⟨oe,vs,e,_,_,hd,_,h1⟩:=id x
  obtain ⟨ot,ts,et,vL,h3⟩:=id tb
  unfold noteFrame
  simp only [hf]
  refine zt (jc e hd h1 ?_)
  rw [zx (show (Value.ref T != Value.none)=true by simp)]
  refine zt (jc et vL h3 ?_)
  rw [zx (by simp)]
  exact zM (h s T I x ne tb oa oT)
def L5 {T f:Addr}{fl:Value}(x:XO s.heap a (.ref C) d (.ref T)) (t:TB s.heap T fl) (ne:T≠a)
  (h:∀h',XO h' a (.ref C) d (.ref T)->TB h' T (rawInt f)->(∀b o,b≠T->s.heap.get? b=some o->h'.get? b=some o)->Q () { s with heap:=h' }) {M:Model}:wpAny M A (setFlight (.ref a) (some f)) Q E s:=by
 obtain ⟨oe,vs,e,_,_,hd,_,h1⟩:=id x
 obtain ⟨oT,ts,eT,hdT,h3⟩:=id t
 unfold setFlight
 refine zt (jc e hd h1 ?_)
 rw [zx (show (Value.ref T != Value.none)=true by simp)]
 refine wpAny_setField eT hdT (Array.getElem?_eq_some_iff.mp h3).1 ?_
 exact h _ (x.keeps λo q=>(wK _ _ ne).trans q) (t.set3 _) λb o nb q=>(wK _ _ (yC nb)).trans q
def jv (bH:X.stack=X.env::X.outer) (hf:X.env.frame=some X.env.locals):PassesOwn (model X.prog X.w) X.A X.env (XA X Er):=by
 rintro e s ⟨pins,U,H,a,C,d,rfl,I,F,q⟩
 unfold notedBy
 refine CT I I.ok.frames bH hf F λs2 T I2 x2 ne vO oa oT=>?_
 unfold cameBackBy
 obtain ⟨oe,vs,e2,_,_,hd,_,h1⟩:=id x2
 refine zt (jc e2 hd h1 ?_)
 rw [zH (show ¬((Value.ref T==Value.none)=true) by simp),hf]
 refine L5 x2 vO ne λh' x3 pI k3=>⟨pins,U,H,a,C,d,rfl,?_,.inr ⟨T,x3,ne,pI,oa,oT⟩,q⟩
 exact I2.turned (t':=s2.toks) (it:=T) (λb o nb e=>k3 b o nb e) oT.1 oT.2.2.1 (.inr oT.2.1) oT.2.2.2.1 oT.2.2.2.2
def cy.throwing {st:List Stmt}{t:TS}(h:cy (X.wish (XA X Er)) st t) (ht:j7 X Er):cy X st t:=λpins s U H D I hw =>
 yP (h pins s U H D (I.wish _) hw) (λ_ _ q=>q.unwish) λe s' ⟨pins,U,H,a,C,d,ee,I1,F,q⟩=>ee▸ht pins U H s' a C d I1 F q
def nG (t:j7 X Er):Passes (cj X.prog X.w) X Er:=LS t.one
end
def L6 {P:Program}{w:World}{K:PySem.W.Frag}{mg:Ab}{base:Heap}{N:Ad}{qual:Str}{scope:Scope}{f:Addr}{cd:Value}{A:Around}{outer:List Env}{s:Shared}{H:Hp}{E:XK} :
  j7 (dy (cj P w) P w K mg base N qual scope f cd A outer s H E) E:=by
 intro pins U H1 s1 a C d I F q
 show wpAny (model P w) (A.deeper (envOfC qual scope s.heap.objs.size f cd)) (leaving (envOfC qual scope s.heap.objs.size f cd) (.ref a)) _ _ s1
 unfold leaving
 refine zt (CT I I.ok.frames rfl rfl F λs2 T I2 x ne tb oa oT=>vK I2 x ne tb oa oT λs3 I3 x3 pI=>?_)
 exact ⟨a,C,T,d,H1,rfl,I3.os,I3.bare,I3.base,I3.hok,x3,ne,pI,⟨oa.2.1,oa.1⟩,⟨oT.2.1,oT.1⟩,q⟩
section
variable {P:Program}{w:World}{K:PySem.W.Frag}{mg:Ab}{base:Heap}
def dZ.okT {x qual:Str}{st:Stmt}{f:Addr}{fd:FuncData}{N ps:Ad}{k:Nat}{sp:Sp}(F:dZ K x qual st f fd) (S:au N ps (zF st)) (len:∀vs H Q E,sp vs H Q E->vs.length=ps.length)
  (fz:∀(aX:Value) (A:Around) (outer:List Env) (s:Shared) (H:Hp) (vs:List V) (Q:VK) (E:XK),aY k (A.deeper (envOfC qual (zF st) s.heap.objs.size f aX))->sp vs H Q E ->
   ∃t,cy ((dy (cj P w) P w K mg base N qual (zF st) f aX A outer s H E).wish (XA (dy (cj P w) P w K mg base N qual (zF st) f aX A outer s H E) E)) (jo st) t/\t { nx:=λ_ H'=>Q .non H',rt:=Q } (start N vs) H):br P w K mg base (cj P w) (k+1) f fd ps sp :=
 dZ.okX F S len λaX A outer s H vs Q E hr hs=>let ⟨t,h1,h2⟩:=fz aX A outer s H vs Q E hr hs;⟨t,cy.throwing h1 L6,h2⟩
end
end L2
namespace L2
open PySem PySem.Spec PyProof.Rows PySem.W PySem.Builtin PySem.Builtin.ObjectAttr
section
variable {prog:Program}{w:World}{A:Around}{E:Aa}{K:Frag}{x C:Addr}{s:Shared}{ox:Obj}{od:Option Obj}{name:Str}{tk:Tok}
structure gH (K:Frag) (C:Addr):Prop where
 ga:findIn K (.ref C) "__getattribute__" = some (some (.builtin "BaseException.__getattribute__"))
 hk:findIn K (.ref C) "__getattr__" = some none
 hB:mroIn K C (.type "BaseException")=some true
theorem CU {fill expr:Bool}{Q:Aa}(X:K.In s.heap) (I:InstAt s.heap x ox C od) (G:gH K C)
  (h:wpAny (model prog w) A.in1 (Builtin.«object.__getattribute__» ⟨[.ref x,.str name tk],[]⟩) (λfin s'=>∃v,fin=.done (.ret v)/\handedIn v=true/\Q v s') (λ_ _=>False) s) :
  wpAny (model prog w) A (getAttrBy (.ref x) (.str name tk) fill expr) Q E s:=by
 have L0:=I.type (M:=model prog w)
 have L1:=looks_findIn (M:=model prog w) X G.ga
 have L2:=looks_findIn (M:=model prog w) X G.hk
 have L7:Looks (model prog w) s.heap (isInstance (.ref x) (.type "BaseException")) true:=I.type.andThen (looks_mroIn X G.hB)
 unfold getAttrBy
 refine wn (zt (L0.here (zt (L1.here ?_))))
 dsimp only
 rw [zH (show ¬((onTheHeap (Value.ref C)&&Value.builtin "BaseException.__getattribute__" == Value.builtin "object.__getattribute__")=true) by
  rw [show (Value.builtin "BaseException.__getattribute__" == Value.builtin "object.__getattribute__")=false by decide +kernel,Bool.and_false];exact Bool.false_ne_true)]
 unfold getAttrByItsOwn hookBefore
 rw [zx (show onTheHeap (Value.ref C)=true from rfl)]
 refine zt (L2.here (zt (wpAny_attempt (wn ?_))))
 unfold callGetattribute
 rw [zH (show ¬((expr&&onTheHeap (Value.builtin "BaseException.__getattribute__"))=true) by cases expr<;>exact Bool.false_ne_true)]
 unfold boundAndCalled
 refine zt (wpAny_of_eq (PySem.F.excAttr_ValueError.ga.bind (.ref x)) ?_)
 refine wpAny_call (codeAny_call_builtin PySem.F.excAttr_ValueError.ga.plain PySem.F.entry_bexc_ga (@check_slot (model prog w) _ _ s "BaseException.__getattribute__" "BaseException" "__getattribute__" (.ref x) [.str name tk] [] _ (by decide +kernel) (by decide +kernel) L7 (PySem.F.args_bexc_ga (.ref x) (.str name tk)) ?_))
 refine yP h (λfin s' ⟨v,ef,hv,q⟩=>?_) λ_ _ z=>z.elim
 subst ef
 show wpAny _ _ (handedOut v) _ _ _
 rw [handedOut_of hv]
 exact zM q
def L8 {v:Value}{Q:Fin->Shared->Prop}(X:K.In s.heap) (I:InstAt s.heap x ox C od) (hf:findObj K C od name=some (.value v)) (h:Q (.done (.ret v)) s) :
  wpAny (model prog w) A (Builtin.«object.__getattribute__» ⟨[.ref x,.str name tk],[]⟩) Q E s:=by
 have L0:=I.type (M:=model prog w)
 have L1:=looks_find (M:=model prog w) X I hf
 exact zt (zM (zt (zM (zt (L0.here (zt (L1.here (zM h))))))))
def L_ {Q:Fin->Shared->Prop} (X:K.In s.heap) (I:InstAt s.heap x ox C od) (hf:findObj K C od "__class__" = some (.bind (.builtin "getset_descriptor.__get__") (.builtin "object.__class__"))) (hm:mroIn K C (.type "object")=some true)
  (h:Q (.done (.ret (.ref C))) s):wpAny (model prog w) A (Builtin.«object.__getattribute__» ⟨[.ref x,.str "__class__" tk],[]⟩) Q E s:=by
 have L0:=I.type (M:=model prog w)
 have L1:=looks_find (M:=model prog w) X I hf
 refine zt (zM (zt (zM (zt (L0.here (zt (L1.here ?_)))))))
 show wpAny _ _ (holding [.builtin "object.__class__"] (call (.builtin "getset_descriptor.__get__") [.builtin "object.__class__", .ref x,.ref C]) >>= ret) _ _ _
 exact zt (wn (wpAny_call (class_get (ox:=ox) (od:=od) X I hm (zM h))))
end
def Ma {K:Frag} {x D:Addr} {ox:Obj} {od:Option Obj} (G:gH K D) (hcl:(clsIn K D).isSome=true) (hf:findObj K D od "__class__" = some (.bind (.builtin "getset_descriptor.__get__") (.builtin "object.__class__"))) (hm:mroIn K D (.type "object")=some true) :
  KitX K (.ref x) (.ref D) (λh=>InstAt h x ox D od):=by
 obtain ⟨cd,hc⟩:=Option.isSome_iff_exists.mp hcl
 unfold clsIn at hc
 split at hc
 ·rename_i c' d' XZ rg ho
  refine ⟨λ_ _ _ I=>I.type,λM h X _=>?_,λh tp dd its n sl X Mb=>?_,λ{prog w A E Q s} X I k=>?_⟩
  ·intro A' Q' E' s' k q
   unfold isType loadHead
   exact zt (wpAny_loadPart (k _ _ (X _ _ ho)) (zM q))
  ·refine Bool.eq_false_iff.mpr λq=>?_
   obtain rfl:D=tp:=Value.ref.inj (beq_iff_eq.mp q)
   have z:=(X _ _ ho).symm.trans Mb
   cases z
  ·unfold getAttr? getAttrBy?
   refine zt (wpAny_mkText (zt (wpAny_attempt ?_)))
   exact CU (s:={ s with toks:=s.toks+1 }) X I G (L_ (s:={ s with toks:=s.toks+1 }) X I hf hm ⟨_,rfl,rfl,zM k⟩)
 ·cases hc
structure mX (K:Frag) (C:Addr):Prop where
 g:gH K C
 hd:hasDictIn K C=true
 ha:findIn K (.ref C) "__class__" = some (some (.builtin "object.__class__"))
 hn:specialIn K (.builtin "object.__class__") "__get__" = some (some (.builtin "getset_descriptor.__get__"))
 tk:takesIn K (.builtin "object.__class__")=some true
 hm:mroIn K C (.type "object")=some true
section
variable {X:Cx}{pins:Ac}{U:St}{H:Hp}{s:Shared}{a C d:Addr}{fs:List (Str×V)}{A:Around}{E:Aa}
def Mc {b:Bool}{f:Str}{v:V}{Q:Aa}(I:Inv X pins U H s) (ha:H a=some (gG C (some d) a)) (hd:H d=some (.xd fs)) (g:gH X.K C) (hh:hasDictIn X.K C=true) (no:findIn X.K (.ref C) f=some none) (l:fs.lookup f=some v)
  (h:∀u s',Inv X pins U H s'->RelV v u->Q u s'):wpAny (model X.prog X.w) A (getAttr (.ref a) f b) Q E s:=by
 obtain ⟨ox,od,J,hl⟩:=CS I ha hd
 obtain ⟨o,ho,r⟩:=hl f
 rw [l] at r
 obtain ⟨u,rfl,ru⟩:=cE.some_of (v:=v) (o:=o) r
 unfold getAttr
 refine zt (wpAny_mkText ?_)
 exact CU (s:={ s with toks:=s.toks+1 }) I.kIn J g (L8 (s:={ s with toks:=s.toks+1 }) I.kIn J (findObj_own hh no rfl ho) ⟨u,rfl,BL ru,h u _ (I.tok _) ru⟩)
def Md {c:Value}{b:Bool}{Q:Aa}(I:Inv X pins U H s) (ha:H a=some (gG C (some d) a)) (hd:H d=some (.xd fs)) (k:mX X.K C) (e:kitOne X.K (.ref C) c=some b) (h:∀tk,Q (.bool b) { s with toks:=tk }) :
  wpAny (model X.prog X.w) A (call (.builtin "isinstance") [.ref a,c]) Q E s:=by
 obtain ⟨ox,od,J,_⟩:=CS I ha hd
 have cl:(clsIn X.K C).isSome=true:=by obtain ⟨cd,hc,_⟩:=any_some k.hd;rw [hc];rfl
 exact kia_one (Ma k.g cl (findObj_data cl k.ha k.hn k.tk) k.hm) I.kIn J e (λz=>nomatch z) h
end
end L2
namespace L2
open PySem PySem.Spec PyProof.Rows PySem.W
structure l7 (prog:Program) (w:World) (it src:Addr) (xs:Array Value) (St:Nat->Heap->Prop):Prop where
 at_:∀{k h h'},St k h->(∀o,h.get? it=some o->h'.get? it=some o)->(∀o,h.get? src=some o->h'.get? src=some o)->St k h'
 lt:∀{k h},St k h->it<h.objs.size
 item:∀{A:Around} {E:Aa} {s:Shared} {k:Nat} {x:Value} {Q:Aa},St k s.heap->xs[k]?=some x->(∀h',St (k+1) h'->Heap.SameBut it s.heap h'->Q x { s with heap:=h' }) ->
  wpAny (model prog w) A (Builtin.SmallTypes.nextOf (.ref it)) Q E s
 stop:∀{A:Around} {E:Aa} {s:Shared} {k:Nat} {Q:Aa},A.handled=none->St k s.heap->xs[k]?=none ->
  (∀h' e,Heap.ExtBut it s.heap h'->(∃o,h'.get? e=some o/\o.cls=.type "StopIteration")->E (.ref e) { s with heap:=h' })->wpAny (model prog w) A (Builtin.SmallTypes.nextOf (.ref it)) Q E s
def pJ (it t:Addr) (xs:Array Value) (k:Nat) (h:Heap):Prop:=IsTupIter h it t k/\IsTup h t xs
def iF {prog:Program}{w:World}{it t:Addr}{xs:Array Value}(ne:t≠it):l7 prog w it t xs (pJ it t xs) where
 at_:=λ{k h h'} q k1 k2=>by
  obtain ⟨⟨o,ho,r⟩,⟨o',ho',r'⟩⟩:=q
  exact ⟨⟨o,k1 o ho,r⟩,⟨o',k2 o' ho',r'⟩⟩
 lt:=λq=>let ⟨⟨_,ho,_⟩,_⟩:=q;ym ho
 item:=λ{A E s k x Q} q hx hQ=>by
  obtain ⟨hit,ht⟩:=q
  obtain ⟨o,ho,hc,hd⟩:=id hit
  obtain ⟨ol,vP,_,nl,vQ⟩:=id ht
  unfold Builtin.SmallTypes.nextOf
  refine zt (wpAny_callSpecial?_slot (name:=Str.ofString "__next__") hit.typeIs slot_tupleiter_next (wm slot_tupleiter_next hit.typeIs entry_tupleiter_next ?_ (args_tupleiter_next _)))
  change wpAny _ _ (field (.ref it) 0 >>= _) _ _ s
  refine zt (jc ho hd (x:=.ref t) rfl ?_)
  rw [zH (by simp)]
  change wpAny _ _ (field (.ref it) 1 >>= _) _ _ s
  refine zt (jc ho hd (x:=.int k 0) rfl ?_)
  change wpAny _ _ (seqItems? (.ref t) >>= _) _ _ s
  refine zt (wpAny_seqItems vP vQ ?_)
  simp only [hx,Int.toNat_natCast]
  have fl:=Obj.data_mapFields hd (·.setIfInBounds 1 (rawInt (k+1)))
  refine zt (wpAny_setField ho hd (by simp) (zM ⟨x,rfl,zM (hQ _ ⟨⟨_,Heap.get?_update_self _ ho (Obj.isFreed_of_fields fl),(Obj.cls_mapFields ..).trans hc,?_⟩,?_⟩ (Heap.SameBut.update ..))⟩))
  ·rw [fl];simp [rawInt]
  ·exact ht.extBut (Heap.SameBut.update ..).extBut ne
 stop:=λ{A E s k Q} hh q hx hE=>by
  obtain ⟨hit,ht⟩:=q
  obtain ⟨o,ho,hc,hd⟩:=id hit
  obtain ⟨ol,vP,_,nl,vQ⟩:=id ht
  unfold Builtin.SmallTypes.nextOf
  refine zt (wpAny_callSpecial?_slot (name:=Str.ofString "__next__") hit.typeIs slot_tupleiter_next (wm slot_tupleiter_next hit.typeIs entry_tupleiter_next ?_ (args_tupleiter_next _)))
  change wpAny _ _ (field (.ref it) 0 >>= _) _ _ s
  refine zt (jc ho hd (x:=.ref t) rfl ?_)
  rw [zH (by simp)]
  change wpAny _ _ (field (.ref it) 1 >>= _) _ _ s
  refine zt (jc ho hd (x:=.int k 0) rfl ?_)
  change wpAny _ _ (seqItems? (.ref t) >>= _) _ _ s
  refine zt (wpAny_seqItems vP vQ ?_)
  simp only [hx,Int.toNat_natCast]
  refine zt (wpAny_rule (zt (wpAny_setField ho hd (by simp) ?_)))
  change wpAny _ _ (newExc (.type "StopIteration") [] >>= _) _ _ _
  refine zt ?_
  simp only [newExc,newTuple]
  refine zt (hW (zt (m:=firstArgMember _ _) (wpAny_of_eq (a:=Value.none) (by first|rfl|(simp only [firstArgMember];rfl)) (hW ?_ (by size_fits)))) (by size_fits))
  simp only [raiseNew]
  refine zt (wpAny_handled ?_)
  first|rw [show A.in1.handled=none from hh]|rw [hh]
  exact zt (zM (wpAny_throw (hE _ _ (((Heap.SameBut.update ..).extBut.push _).push _) ⟨_,yY _ rfl,rfl⟩)))
section
variable {prog:Program}{w:World}{A:Around}{E:Aa}{s:Shared}{z TI TO i1 i2 t1 t2:Addr}{k:Nat}{xs ys:Array Value}{x y a b:Value}{S1 S2:Nat->Heap->Prop}
def l7.by_same (S:l7 prog w i1 t1 xs S1) {h h':Heap}{c:Addr}(q:S1 k h) (hs:Heap.SameBut c h h') (n1:i1≠c) (n2:t1≠c):S1 k h' :=
 S.at_ q (λo e=>hs.extBut _ _ n1 e) λo e=>hs.extBut _ _ n2 e
theorem Me {Q:Aa}(D:ZipApart z TI TO i1 i2 t1 t2) (U1:l7 prog w i1 t1 xs S1) (U2:l7 prog w i2 t2 ys S2) (hz:IsZip s.heap z TI TO .none) (f9:IsPair s.heap TI (.ref i1) (.ref i2)) (eY:IsPair s.heap TO a b)
  (q1:S1 k s.heap) (q2:S2 k s.heap) (hx:xs[k]?=some x) (hy:ys[k]?=some y)
  (hQ:∀h',IsZip h' z TI TO (rawInt s.heap.objs.size)->IsPair h' TO x y->S1 (k+1) h'->S2 (k+1) h'->IsPair h' s.heap.objs.size x y ->
   (∀c o,c≠z->c≠TO->c≠i1->c≠i2->s.heap.get? c=some o->h'.get? c=some o)->Q (.ref s.heap.objs.size) { s with heap:=h' }) :
  wpAny (model prog w) A (Builtin.«zip.__next__» ⟨[.ref z],[]⟩) (λfin s'=>∃v,fin=.done (.ret v)/\Q v s') E s:=by
 change wpAny _ _ (field (.ref z) 2 >>= _) _ _ _
 refine zt (jc hz rfl (x:=.bool false) rfl ?_)
 change wpAny _ _ (field (.ref z) 3 >>= _) _ _ _
 refine zt (jc hz rfl (x:=.ref TI) rfl (zt (wpAny_seqItems f9 rfl ?_)))
 change wpAny _ _ (Builtin.SmallTypes.ownedTupleIsFree (.ref z) >>= _) _ _ _
 refine zt ?_
 unfold Builtin.SmallTypes.ownedTupleIsFree
 refine zt (jc hz rfl (x:=.none) rfl (zM ?_))
 rw [zx rfl]
 refine zt (wpAny_rule (zt (jc hz rfl (x:=.ref TO) rfl (zt (wpAny_setField_rec hz (by simp) λh1 z1 e1=>?_)))))
 replace z1:IsZip h1 z TI TO .ellipsis:=z1
 refine zt ?_
 simp only [List.zipIdx_cons,List.zipIdx_nil,List.forIn_cons,List.forIn_nil]
 refine zt (zt (wpAny_onRaise ?_))
 change wpAny _ _ (Builtin.SmallTypes.nextOf (.ref i1) >>= _) _ _ _
 refine zt (U1.item (U1.by_same q1 e1 D.i1z D.l1z) hx λh2 p2 e2=>zM ?_)
 have o2:IsPair h2 TO a b:=e2.extBut _ _ D.TOi1 (e1.extBut _ _ D.TOz eY)
 refine zt (wpAny_seqItems o2 rfl (zt (wpAny_updateSeq_pair o2 λh3 o3 e3=>?_)))
 replace o3:IsPair h3 TO x b:=o3
 refine zt (wpAny_letGo (zM (zt (zt (wpAny_onRaise ?_)))))
 change wpAny _ _ (Builtin.SmallTypes.nextOf (.ref i2) >>= _) _ _ _
 have r3:S2 k h3:=U2.by_same (U2.by_same (U2.by_same q2 e1 D.i2z D.l2z) e2 D.i12.symm D.l2i1) e3 D.TOi2.symm D.l2TO
 refine zt (U2.item r3 hy λh4 p4 e4=>zM ?_)
 have o4:IsPair h4 TO x b:=e4.extBut _ _ D.TOi2 o3
 refine zt (wpAny_seqItems o4 rfl (zt (wpAny_updateSeq_pair o4 λh5 o5 e5=>?_)))
 replace o5:IsPair h5 TO x y:=o5
 refine zt (wpAny_letGo (zM (zM (zt (wpAny_seqItems o5 rfl (zt (wpAny_newTuple ?_)))))))
 have sz:h5.objs.size=s.heap.objs.size:=by rw [e5.1,e4.1,e3.1,e2.1,e1.1]
 have z5:IsZip h5 z TI TO .ellipsis:=e5.extBut _ _ D.TOz.symm (e4.extBut _ _ D.i2z.symm (e3.extBut _ _ D.TOz.symm (e2.extBut _ _ D.i1z.symm z1)))
 have k5:∀c o,c≠z->c≠TO->c≠i1->c≠i2->s.heap.get? c=some o->h5.get? c=some o:=λc o c1 c2 c3 c4 e=>e5.extBut _ _ c2 (e4.extBut _ _ c4 (e3.extBut _ _ c2 (e2.extBut _ _ c3 (e1.extBut _ _ c1 e))))
 have f1:S1 (k+1) h5:=U1.by_same (U1.by_same (U1.by_same p2 e3 D.TOi1.symm D.l1TO) e4 D.i12 D.l1i2) e5 D.TOi1.symm D.l1TO
 have f2:S2 (k+1) h5:=U2.by_same p4 e5 D.TOi2.symm D.l2TO
 change wpAny _ _ (Builtin.SmallTypes.ownedTupleHandOut (.ref z) (.ref h5.objs.size) >>= _) _ _ _
 refine zt ?_
 unfold Builtin.SmallTypes.ownedTupleHandOut
 have z6:IsZip (h5.push { cls:=.type "tuple", data:=.seq #[x,y] }) z TI TO .ellipsis:=yk _ z5
 refine zt (wpAny_setField_rec z6 (by simp) λh7 z7 e7=>?_)
 replace z7:IsZip h7 z TI TO (rawInt h5.objs.size):=z7
 refine wpAny_setField_rec z7 (by simp) λh8 z8 e8=>?_
 replace z8:IsZip h8 z TI TO (rawInt h5.objs.size):=z8
 have up:∀c o,c≠z->h5.get? c=some o->h8.get? c=some o:=λc o c1 e=>e8.extBut _ _ c1 (e7.extBut _ _ c1 (yk _ e))
 have nz:h5.objs.size≠z:=Nat.ne_of_gt (ym z5)
 have pT:IsPair h8 h5.objs.size x y:=e8.extBut _ _ nz (e7.extBut _ _ nz (yY _ rfl))
 rw [sz] at z8 pT
 refine zM ⟨_,rfl,?_⟩
 change Q (.ref h5.objs.size) _
 rw [sz]
 exact hQ h8 z8 (up _ _ D.TOz o5) (U1.at_ f1 (λo e=>up _ o D.i1z e) λo e=>up _ o D.l1z e) (U2.at_ f2 (λo e=>up _ o D.i2z e) λo e=>up _ o D.l2z e) pT λc o c1 c2 c3 c4 e=>up c o c1 (k5 c o c1 c2 c3 c4 e)
def Mf {Q:Fin->Shared->Prop}(hh:A.handled=none) (D:ZipApart z TI TO i1 i2 t1 t2) (U1:l7 prog w i1 t1 xs S1) (U2:l7 prog w i2 t2 ys S2) (hz:IsZip s.heap z TI TO .none) (f9:IsPair s.heap TI (.ref i1) (.ref i2)) (eY:IsPair s.heap TO a b)
  (q1:S1 k s.heap) (q2:S2 k s.heap) (he:xs[k]?=none\/ys[k]?=none)
  (hE:∀h' e,(∀c o,c≠z->c≠TO->c≠i1->c≠i2->s.heap.get? c=some o->h'.get? c=some o)->(∃o,h'.get? e=some o/\o.cls=.type "StopIteration")->E (.ref e) { s with heap:=h' }) :
  wpAny (model prog w) A (Builtin.«zip.__next__» ⟨[.ref z],[]⟩) Q E s:=by
 change wpAny _ _ (field (.ref z) 2 >>= _) _ _ _
 refine zt (jc hz rfl (x:=.bool false) rfl ?_)
 change wpAny _ _ (field (.ref z) 3 >>= _) _ _ _
 refine zt (jc hz rfl (x:=.ref TI) rfl (zt (wpAny_seqItems f9 rfl ?_)))
 change wpAny _ _ (Builtin.SmallTypes.ownedTupleIsFree (.ref z) >>= _) _ _ _
 refine zt ?_
 unfold Builtin.SmallTypes.ownedTupleIsFree
 refine zt (jc hz rfl (x:=.none) rfl (zM ?_))
 rw [zx rfl]
 refine zt (wpAny_rule (zt (jc hz rfl (x:=.ref TO) rfl (zt (wpAny_setField_rec hz (by simp) λh1 z1 e1=>?_)))))
 replace z1:IsZip h1 z TI TO .ellipsis:=z1
 refine zt ?_
 simp only [List.zipIdx_cons,List.zipIdx_nil,List.forIn_cons,List.forIn_nil]
 refine zt (zt (wpAny_onRaise ?_))
 change wpAny _ _ (Builtin.SmallTypes.nextOf (.ref i1) >>= _) _ _ _
 have p1:=U1.by_same q1 e1 D.i1z D.l1z
 have CV:∀{h:Heap} {e:Addr} {oe:Obj},IsZip h z TI TO .ellipsis->h.get? e=some oe->oe.cls=.type "StopIteration" -> e≠z:=λiz ho hc x=>by
  rw [x,iz] at ho
  cases ho
  simp at hc
 cases hx:xs[k]? with
 | none =>
  refine zt (U1.stop hh p1 hx λh2 e e2 ⟨oe,pK,pL⟩=>?_)
  have z2:IsZip h2 z TI TO .ellipsis:=e2 _ _ D.i1z.symm z1
  exact wpAny_setField_rec z2 (by simp) λh3 _ e3=>hE h3 e (λc o c1 _ c3 _ x=>e3.extBut _ _ c1 (e2 _ _ c3 (e1.extBut _ _ c1 x))) ⟨oe,e3.extBut _ _ (CV z2 pK pL) pK,pL⟩
 | some x =>
  have hy:ys[k]?=none:=by
   rcases he with h|h
   ·rw [hx] at h;cases h
   ·exact h
  refine zt (U1.item p1 hx λh2 p2 e2=>zM ?_)
  have o2:IsPair h2 TO a b:=e2.extBut _ _ D.TOi1 (e1.extBut _ _ D.TOz eY)
  refine zt (wpAny_seqItems o2 rfl (zt (wpAny_updateSeq_pair o2 λh3 o3 e3=>?_)))
  refine zt (wpAny_letGo (zM (zt (zt (wpAny_onRaise ?_)))))
  change wpAny _ _ (Builtin.SmallTypes.nextOf (.ref i2) >>= _) _ _ _
  have r3:S2 k h3:=U2.by_same (U2.by_same (U2.by_same q2 e1 D.i2z D.l2z) e2 D.i12.symm D.l2i1) e3 D.TOi2.symm D.l2TO
  refine zt (U2.stop hh r3 hy λh4 e e4 ⟨oe,pK,pL⟩=>?_)
  have z4:IsZip h4 z TI TO .ellipsis:=e4 _ _ D.i2z.symm (e3.extBut _ _ D.TOz.symm (e2.extBut _ _ D.i1z.symm z1))
  exact wpAny_setField_rec z4 (by simp) λh5 _ e5=>hE h5 e (λc o c1 c2 c3 c4 x=>e5.extBut _ _ c1 (e4 _ _ c4 (e3.extBut _ _ c2 (e2.extBut _ _ c3 (e1.extBut _ _ c1 x))))) ⟨oe,e5.extBut _ _ (CV z4 pK pL) pK,pL⟩
end
section
variable {X:Cx}{pins:Ac}{U:St}{H:Hp}{s:Shared}{h':Heap}
def Inv.turnL {ch:Ae}{t':Nat}(I:Inv X pins U H s) (hc:∀b∈ch,cU X pins H b) (k:∀b o,b∉ch->s.heap.get? b=some o->h'.get? b=some o):Inv X pins U H { s with heap:=h',toks:=t' }:=by
 have gu:∀b u,H b=some u->b∉ch:=λb u e z=>by rw [(hc b z).1] at e;cases e
 refine I.step (g':=s.gens) (d':=s.drawn) (ch:=ch) (λb hb=>?_) (λb o _ _ nb e _=>k b o nb e) (λb o _ _ nb e _=>⟨o.slots,k b o nb e⟩) (λ_ _ _ _ n=>n)
  (λb o nb e=>⟨o,k b o nb e⟩) (λ_ _ e=>e) (λ_ _ _ e=>e) (λb ps e=>⟨#[],by rw [e];simp⟩) (λm hm=>?_) (λb u e=>?_) I.bare
 ·obtain ⟨_,f1,_,f3,f4,f5⟩:=hc b hb
  exact ⟨f3,f1,f4,f5⟩
 ·obtain ⟨o,es,ep,ho,r⟩:=hm
  exact ⟨o,es,ep,k _ o (λz=>(hc _ z).2.1 rfl) ho,r⟩
 ·refine (I.hok b u e).stay (λc v cQ q=>k c v ?_ q) (λ_ q=>q) λ_ _ q=>q
  rcases cQ with z|z
  ·rw [z];exact gu b u e
  ·exact gu c _ z
def Inv.turnN {ch:Ae}{T:Addr}{o:HO}{t':Nat}(I:Inv X pins U H s) (hc:∀b∈ch,cU X pins H b) (k:∀b o,b∉ch->s.heap.get? b=some o->h'.get? b=some o) (hT:s.heap.objs.size<=T)
  (new:aZ X.prog X.w (upd H T o) h' T o):Inv X pins U (upd H T o) { s with heap:=h',toks:=t' }:=by
 have fT:H T=none:=I.hok.fresh hT
 have gu:∀b u,H b=some u->b∉ch:=λb u e z=>by rw [(hc b z).1] at e;cases e
 have nT:∀b u,H b=some u->b≠T:=λb u e z=>by rw [z,fT] at e;cases e
 refine I.step (g':=s.gens) (d':=s.drawn) (ch:=ch) (λb hb=>?_) (λb o _ _ nb e _=>k b o nb e) (λb o _ _ nb e _=>⟨o.slots,k b o nb e⟩) (λb u _ e n=>?_)
  (λb o nb e=>⟨o,k b o nb e⟩) (λb xs e=>?_) (λb u v e=>?_) (λb ps e=>⟨#[],?_⟩) (λm hm=>?_) (λb u e=>?_) I.bare
 ·obtain ⟨_,f1,_,f3,f4,f5⟩:=hc b hb
  exact ⟨f3,f1,f4,f5⟩
 ·rw [yc (yK (jm (ym e) hT))];exact n
 ·rw [yc (nT b _ e)];exact e
 ·rw [yc (nT b _ e)];exact e
 ·rw [yc (nT b _ e),e];simp
 ·obtain ⟨o,es,ep,ho,r⟩:=hm
  exact ⟨o,es,ep,k _ o (λz=>(hc _ z).2.1 rfl) ho,r⟩
 ·by_cases z:b=T
  ·rw [z] at e ⊢
   rw [y0] at e
   cases e
   exact new
  ·rw [yc z] at e
   refine (I.hok b u e).stay (λc v cQ q=>k c v ?_ q) (λc q=>by rw [yc (nT c _ q)];exact q) λc xs q=>by rw [yc (nT c _ q)];exact q
   rcases cQ with z|z
   ·rw [z];exact gu b u e
   ·exact gu c _ z
end
def vR (K:Frag) (a b:Addr):It :=
 ⟨λi H=>∃xs ys x y,a9 K H a xs/\a9 K H b ys/\xs[i]?=some x/\ys[i]?=some y,
  λi H v H'=>∃T x y,H T=none/\v=.ref T/\H'=upd H T (.tup [x,y])/\(∀xs,a9 K H a xs->xs[i]?=some x)/\∀ys,a9 K H b ys->ys[i]?=some y,
  λi H=>∃xs ys,a9 K H a xs/\a9 K H b ys/\(xs.length<=i\/ys.length<=i)⟩
def CW (z TI TO i1 i2 a b:Addr) (k:Nat) (h:Heap):Prop:=IsZip h z TI TO .none/\IsPair h TI (.ref i1) (.ref i2)/\(∃u v,IsPair h TO u v)/\IsTupIter h i1 a k/\IsTupIter h i2 b k
def nH {X:Cx}{pins:Ac}{U:St}{H:Hp}{s:Shared}{a c:Addr}{xs:List V}(I:Inv X pins U H s) (hf:cU X pins H c) (hq:a9 X.K H a xs):a≠c:=by
 rintro rfl
 rcases hq with q|⟨o,its,n,hl,_⟩
 ·rcases q with q|⟨ob,q⟩<;>(rw [hf.1] at q;cases q)
 ·have e:=I.ok.mod.kin _ _ hl
  rcases hf.2.2.2.1 with z|z
  ·exact I.ok.noex _ _ e z
  ·exact absurd (jm (ym (I.ok.bs _ _ e).1) z) (Nat.lt_irrefl _)
structure CY (z TI TO i1 i2:Addr):Prop where
 TIz:TI≠z
 TOz:TO≠z
 i1z:i1≠z
 i2z:i2≠z
 TITO:TI≠TO
 TIi1:TI≠i1
 TIi2:TI≠i2
 TOi1:TO≠i1
 TOi2:TO≠i2
 i12:i1≠i2
theorem Mh {P:Program}{w:World}{K:Frag}{elts:List Expr}{kt:Nat}{pos:Pos}{z TI TO i1 i2 a b:Addr}(V5:CY z TI TO i1 i2):Turn P w K (.Tuple elts kt pos) (vR K a b) [z,TI,TO,i1,i2] z (CW z TI TO i1 i2 a b) where
 mem:=by simp
 obj:=λi h st c hc=>by
  obtain ⟨hz,f9,⟨u,v,eY⟩,⟨o1,e1,_,d1⟩,⟨o2,e2,_,d2⟩⟩:=st
  simp only [yF,List.not_mem_nil,h_] at hc
  rcases hc with q|q|q|q|q<;>rw [q]
  ·exact ⟨_,hz,λv z=>by cases z⟩
  ·exact ⟨_,f9,λv z=>by cases z⟩
  ·exact ⟨_,eY,λv z=>by cases z⟩
  ·exact ⟨_,e1,λv z=>by rw [d1] at z;cases z⟩
  ·exact ⟨_,e2,λv z=>by rw [d2] at z;cases z⟩
 keep:=λi h h' st k=>by
  obtain ⟨hz,f9,⟨u,v,eY⟩,⟨o1,e1,r1⟩,⟨o2,e2,r2⟩⟩:=st
  exact ⟨k z (by simp) _ hz,k TI (by simp) _ f9,⟨u,v,k TO (by simp) _ eY⟩,⟨o1,k i1 (by simp) _ e1,r1⟩,⟨o2,k i2 (by simp) _ e2,r2⟩⟩
 item:=by
  intro X hP hw hK hc i pins s U H E I hf st hg
  subst hP hw hK
  obtain ⟨xs,ys,x,y,kB,iG,hx,hy⟩:=hg
  obtain ⟨hz,f9,⟨u0,v0,eY⟩,nI,rZ⟩:=st
  obtain ⟨uK,vS,p1,_⟩:=I.tuple kB
  obtain ⟨aU,vT,p2,_⟩:=I.tuple iG
  obtain ⟨u,hu,ru⟩:=vS.get hx
  obtain ⟨v,hv,rv⟩:=vT.get hy
  have n1:∀c∈[z,TI,TO,i1,i2],a≠c:=λc h=>nH I (hf c h) kB
  have n2:∀c∈[z,TI,TO,i1,i2],b≠c:=λc h=>nH I (hf c h) iG
  have D:ZipApart z TI TO i1 i2 a b:=⟨V5.TIz,V5.TOz,V5.i1z,V5.i2z,V5.TITO,V5.TIi1,V5.TIi2,V5.TOi1,V5.TOi2,V5.i12,n1 z (by simp),n1 TO (by simp),n1 i1 (by simp),n1 i2 (by simp),n2 z (by simp),n2 TO (by simp),n2 i1 (by simp),n2 i2 (by simp)⟩
  have hT:s.TypeIs (.ref z) "zip" := ⟨_,hz,rfl⟩
  unfold pyNext
  refine zt (wpAny_attempt (wpAny_callSpecial?_slot (name:=Str.ofString "__next__") hT F.slot_zip_next (wm F.slot_zip_next hT F.entry_zip_next
   (Me D (iF D.l1i1) (iF D.l2i2) hz f9 eY ⟨nI,p1⟩ ⟨rZ,p2⟩ (by simpa using hu) (by simpa using hv) λh1 z1 o1 f1 f2 pT kk=>zM ⟨_,rfl,?_⟩) (F.args_zip_next_1 _))))
  refine wpAny_letOwnedTupleGo_zip (s:={ s with heap:=h1 }) z1 λh2 z2 e2=>?_
  have fr:H s.heap.objs.size=none:=I.hok.fresh (ye _)
  have up:∀c o,c≠z->h1.get? c=some o->h2.get? c=some o:=λc o n e=>e2.extBut _ _ n e
  have nz:s.heap.objs.size≠z:=Nat.ne_of_gt (ym hz)
  have k2:∀c o,c∉[z,TI,TO,i1,i2]->s.heap.get? c=some o->h2.get? c=some o:=λc o nc e =>
   up c o (λq=>nc (by simp [q])) (kk c o (λq=>nc (by simp [q])) (λq=>nc (by simp [q])) (λq=>nc (by simp [q])) (λq=>nc (by simp [q])) e)
  refine ⟨.ref s.heap.objs.size,upd H s.heap.objs.size (.tup [x,y]),?_,rfl,⟨s.heap.objs.size,x,y,fr,rfl,rfl,λcM h'=>by rw [I.tuple_inj h' kB];exact hx,λf_ h'=>by rw [I.tuple_inj h' iG];exact hy⟩,?_,λc cQ=>?_⟩
  ·exact Inv.turnN (s:=s) (h':=h2) (t':=s.toks) I hf k2 (ye _) ⟨show 2<=sizeLine by decide,[u,v],.cons ru (.cons rv .nil),_,up _ _ nz pT,rfl,_,rfl⟩
  ·exact ⟨z2,up _ _ D.TIz (kk _ _ D.TIz D.TITO D.TIi1 D.TIi2 f9),⟨_,_,up _ _ D.TOz o1⟩,(let ⟨o,e,r⟩:=f1.1;⟨o,up _ _ D.i1z e,r⟩),(let ⟨o,e,r⟩:=f2.1;⟨o,up _ _ D.i2z e,r⟩)⟩
  ·have q:c≠s.heap.objs.size:=by
    have lt:∃o,s.heap.get? c=some o:=by
     simp only [yF,List.not_mem_nil,h_] at cQ
     rcases cQ with q|q|q|q|q<;>rw [q]
     ·exact ⟨_,hz⟩
     ·exact ⟨_,f9⟩
     ·exact ⟨_,eY⟩
     ·exact let ⟨o,e,_⟩:=nI;⟨o,e⟩
     ·exact let ⟨o,e,_⟩:=rZ;⟨o,e⟩
    obtain ⟨o,e⟩:=lt
    exact yK (ym e)
   rw [yc q]
   exact (hf c cQ).1
 done:=by
  intro X hP hw hK hc i pins s U H E I hf st hg
  subst hP hw hK
  obtain ⟨xs,ys,kB,iG,hx⟩:=hg
  obtain ⟨hz,f9,⟨u0,v0,eY⟩,nI,rZ⟩:=st
  obtain ⟨uK,vS,p1,_⟩:=I.tuple kB
  obtain ⟨aU,vT,p2,_⟩:=I.tuple iG
  have l1:=vS.length
  have l2:=vT.length
  have n1:∀c∈[z,TI,TO,i1,i2],a≠c:=λc h=>nH I (hf c h) kB
  have n2:∀c∈[z,TI,TO,i1,i2],b≠c:=λc h=>nH I (hf c h) iG
  have D:ZipApart z TI TO i1 i2 a b:=⟨V5.TIz,V5.TOz,V5.i1z,V5.i2z,V5.TITO,V5.TIi1,V5.TIi2,V5.TOi1,V5.TOi2,V5.i12,n1 z (by simp),n1 TO (by simp),n1 i1 (by simp),n1 i2 (by simp),n2 z (by simp),n2 TO (by simp),n2 i1 (by simp),n2 i2 (by simp)⟩
  have hT:s.TypeIs (.ref z) "zip" := ⟨_,hz,rfl⟩
  unfold pyNext
  refine zt (wpAny_attempt (wpAny_callSpecial?_slot (name:=Str.ofString "__next__") hT F.slot_zip_next (wm F.slot_zip_next hT F.entry_zip_next
   (Mf (I.ok.hd hc) D (iF D.l1i1) (iF D.l2i2) hz f9 eY ⟨nI,p1⟩ ⟨rZ,p2⟩ (hx.imp (λh=>by simp;omega) λh=>by simp;omega) λh1 e kk he=>?_) (F.args_zip_next_1 _))))
  obtain ⟨o,ho,Mj⟩:=he
  refine zt (wpAny_isInstance (T := "StopIteration") (b:=true) ⟨o,ho,Mj⟩ isSubtype_stop ?_)
  exact zM ⟨rfl,Inv.turnL (t':=s.toks) I hf λc o nc e=>kk c o (λq=>nc (by simp [q])) (λq=>nc (by simp [q])) (λq=>nc (by simp [q])) (λq=>nc (by simp [q])) e⟩
 self:=λ_ _ _ _ _ st h=>wpAny_pyIter_zip st.1 h
abbrev r6 (h:Heap) (a:Addr):Heap:=h.push { cls:=.type "tuple_iterator", data:=.fields #[.ref a,.int 0 0] }
abbrev r9 (h:Heap) (a b:Addr):Heap:=(r6 h a).push { cls:=.type "tuple_iterator", data:=.fields #[.ref b,.int 0 0] }
abbrev sd (h:Heap) (a b:Addr):Heap:=(r9 h a b).push { cls:=.type "tuple", data:=.seq #[.ref h.objs.size,.ref (r6 h a).objs.size] }
abbrev sf (h:Heap) (a b:Addr):Heap:=(sd h a b).push { cls:=.type "tuple", data:=.seq #[.none,.none] }
abbrev iH (h:Heap) (a b:Addr):Heap:=(sf h a b).push { cls:=.type "zip", data:=.fields #[.none,.bool false,.bool false,.ref (r9 h a b).objs.size,.ref (sd h a b).objs.size] }
def Ml (a b:Addr) (xs ys:Array Value) :
  Meets (Builtin.«zip.__new__» ⟨[.type "zip", .ref a,.ref b],[]⟩) (λ_ R s=>IsTup s.heap a xs/\IsTup s.heap b ys/\R (.ok (.ret (.ref (sf s.heap a b).objs.size))) { s with heap:=iH s.heap a b }) :=
 .of_wp λprog w A R s h=>by
  obtain ⟨hp,g,d,tk,os⟩:=s
  obtain ⟨h1,h2,h⟩:=h
  have CZ:=sub_zip
  have H1:IsTup (Shared.heap ⟨hp,g,d,tk,os⟩) a xs:=h1
  have H2:IsTup (Shared.heap ⟨hp.push { cls:=.type "tuple_iterator", data:=.fields #[.ref a,.int 0 0] },g,d,tk,os⟩) b ys:=h2.push _
  wp_walk using iter_tuple H1,iter_tuple H2
  exact ⟨_,rfl,h⟩
section
variable {prog:Program}{w:World}{A:Around}{E:Aa}{s:Shared}
def Mm {a b:Addr}{xs ys:Array Value}{Q:Aa}(h1:IsTup s.heap a xs) (h2:IsTup s.heap b ys)
  (h:CW (s.heap.objs.size+4) (s.heap.objs.size+2) (s.heap.objs.size+3) s.heap.objs.size (s.heap.objs.size+1) a b 0 (iH s.heap a b)->Q (.ref (s.heap.objs.size+4)) { s with heap:=iH s.heap a b }) :
  wpAny (model prog w) A (call (.type "zip") [.ref a,.ref b]) Q E s:=by
 refine callType_new F.called_zip (by decide) (F.typeCall_zip_2 _ _) (F.newCall_zip_2 _ _) (λobj=>F.args_object_init_3 obj _ _) F.entry_zip_new (Ml a b xs ys) ⟨h1,h2,?_⟩
 have z1:(r6 s.heap a).objs.size=s.heap.objs.size+1:=Heap.size_push ..
 have z2:(r9 s.heap a b).objs.size=s.heap.objs.size+2:=by rw [Heap.size_push,z1]
 have z3:(sd s.heap a b).objs.size=s.heap.objs.size+3:=by rw [Heap.size_push,z2]
 have z4:(sf s.heap a b).objs.size=s.heap.objs.size+4:=by rw [Heap.size_push,z3]
 have g5:(iH s.heap a b).get? (sf s.heap a b).objs.size=some _:=yY _ rfl
 have g4:(iH s.heap a b).get? (sd s.heap a b).objs.size=some _:=yk _ (yY _ rfl)
 have g3:(iH s.heap a b).get? (r9 s.heap a b).objs.size=some _:=yk _ (yk _ (yY _ rfl))
 have g2:(iH s.heap a b).get? (r6 s.heap a).objs.size=some _:=yk _ (yk _ (yk _ (yY _ rfl)))
 have g1:(iH s.heap a b).get? s.heap.objs.size=some _:=yk _ (yk _ (yk _ (yk _ (yY _ rfl))))
 show _/\_
 rw [z2,z3,z4] at g5
 rw [z1,z2] at g3
 rw [z3] at g4
 rw [z1] at g2
 rw [z4]
 exact ⟨⟨_,g5,rfl⟩,h ⟨g5,g3,⟨_,_,g4⟩,⟨_,g1,rfl,rfl⟩,⟨_,g2,rfl,rfl⟩⟩⟩
end
theorem Mn:bootBuiltins "zip" = some (.type "zip"):=by decide +kernel
def Mp (K:Frag) (ta:TA):TI:=λU H R=>ta U H λvs H1=>∃a b,vs=[.ref a,.ref b]/\(∃xs,a9 K H1 a xs)/\(∃ys,a9 K H1 b ys)/\R (vR K a b) H1
theorem Mq {X:Cx} {elts:List Expr} {kt:Nat} {tp:Pos} {x y:Expr} {ta:TA} {p pos:Pos} (hg:Gl X "zip") (hm:X.mg "zip" = none) (ha:PA X [x,y] ta) (hs:starEach [x,y] X.env=[(false,eval x X.env),(false,eval y X.env)]:=by rfl) (lH:starEach [y] X.env=[(false,eval y X.env)]:=by rfl) :
  PI X (.Tuple elts kt tp) (.Call (.Name "zip" p) [x,y] [] pos) (Mp X.K ta):=by
 intro pins s U H R I h
 refine Call_ (lE I hg hm Mn (PyProof.Rows.callWith_type1 (aV (ha pos pins s U H _ I h) λus s1 ⟨vs,H1,I1,r1,q1⟩=>?_) (by rw [hs,lH]) (by rw [lH];rfl)))
 obtain ⟨a,b,e,⟨xs,kB⟩,⟨ys,iG⟩,q⟩:=q1
 subst e
 obtain ⟨u,v,rfl,ru,rv⟩:=BG r1
 obtain rfl:u=Value.ref a:=ru
 obtain rfl:v=Value.ref b:=rv
 obtain ⟨uK,_,p1,_⟩:=I1.tuple kB
 obtain ⟨aU,_,p2,_⟩:=I1.tuple iG
 refine Mm p1 p2 λst=>wpAny_pyIter_zip st.1 ?_
 have kk:∀c o,s1.heap.get? c=some o->(iH s1.heap a b).get? c=some o:=λc o e=>yk _ (yk _ (yk _ (yk _ (yk _ e))))
 refine ⟨_,[s1.heap.objs.size+4,s1.heap.objs.size+2,s1.heap.objs.size+3,s1.heap.objs.size,s1.heap.objs.size+1],_,_,H1,rfl,I1.kept (t':=s1.toks) kk,Mh ?_,st,λc hc=>?_,q⟩
 ·have ne:∀(n i j:Nat),i≠j->n+i≠n+j:=λn i j h z=>h (Nat.add_left_cancel z)
  have sg:∀(n i:Nat),i≠0->n+i≠n:=λn i h z=>h (by omega)
  exact ⟨ne _ 2 4 (by decide),ne _ 3 4 (by decide),(sg _ 4 (by decide)).symm,ne _ 1 4 (by decide),ne _ 2 3 (by decide),sg _ 2 (by decide),ne _ 2 1 (by decide),sg _ 3 (by decide),ne _ 3 1 (by decide),(sg _ 1 (by decide)).symm⟩
 ·have le:s1.heap.objs.size<=c:=by
   simp only [yF,List.not_mem_nil,h_] at hc
   rcases hc with q|q|q|q|q<;>rw [q]<;>first|exact ye _|exact Nat.le_add_right _ _
  exact I1.fpOk le (I1.hok.fresh le)
structure KD (X:Cx) (a:Addr):Prop where
 ob:∃es n,X.K.lookup a=some ⟨.type "dict", none,.dict es n,#[]⟩/\KeysLit X.w.params es.toList
 no:(a==sysModules)=false
section
variable {X:Cx}
def Mr:fI X (λx y H Q=>∃a z u v,x=.ref a/\y=.str z/\KD X a/\nsIn X.K a z=some (some u)/\RelV v u/\Q v H):=by
 intro a b pins s U H x y v u Q I rx ry h hs
 obtain ⟨p,z,u',v',rfl,rfl,⟨⟨es,n,hl,hk⟩,_⟩,e,rv,q⟩:=h
 obtain rfl:v=Value.ref p:=rx
 obtain ⟨t,rfl⟩:=ry
 obtain ⟨m,F⟩:=I.fr
 exact topItem_K F I.ok.mod.kin hl hk e ⟨v',H,I.tok _,rv,q⟩ hs
def Ms:ba X (compareOp .NotIn) (λx y H Q=>∃a z r,x=.str z/\y=.ref a/\KD X a/\nsIn X.K a z=some r/\Q (.bl (!r.isSome)) H):=by
 intro pins s U H x y v u Q I rx ry h
 obtain ⟨p,z,r,rfl,rfl,⟨⟨es,n,hl,hk⟩,no⟩,e,q⟩:=h
 obtain rfl:u=Value.ref p:=ry
 obtain ⟨t,rfl⟩:=rx
 refine wpAny_notIn_of (strKind_is X.prog X.w z t) no (mapOf_K (prog:=X.prog) I.kIn hl hk) ?_
 rw [find_K hl e]
 exact ⟨.bl (!r.isSome),H,I.tok _,rfl,q⟩
end
end L2
namespace Mi
open PySem L2 PySem.W
inductive PV where
 | non|bl (b:Bool)|int (i:Int)|str (x:Str)|ty (n:String)
 | tup (xs:List PV)|frl (xs:List PV)|ref (n:Nat)|fn (x:Str)|kd (ks:Ad) (xs:List PV)|exo (c:Str) (ks:Ad) (xs:List PV)
inductive SO where
 | lst (xs:List PV)|dic (ks:Ad) (xs:List PV)|ins (c:Str) (ks:Ad) (xs:List PV)|fdi (ks:Ad) (xs:List PV)|dit (ks:List (List Key)) (xs:List PV)
abbrev aa:=List SO
inductive Res (α:Type) where
 | ok (a:α) (st:aa)|err (c:Str) (ks:Ad) (xs:List PV) (st:aa)|stuck
abbrev Mo (α:Type):=aa->Res α
def Res.bind {α β:Type}:Res α->(α->Mo β)->Res β
 | .ok a st,f=>f a st
 | .err c ks xs st,_=>.err c ks xs st
 | .stuck,_=>.stuck
abbrev zd:=List (Option PV)
def Mt (K:Frag) (a:Addr) (ks:Ad) (us:Af):Prop:=∀z,nsIn K a z=some ((ks.zip us).lookup z)
def iI (K:Frag) (H:Hp) (a:Addr) (vs:List V):Prop :=
 (∃o,H a=some (.frz o (.lst vs)))\/∃(o:Obj) (its:Array Value) (n:Nat),K.lookup a=some o/\o.cls=.type "list" /\ o.dict=none/\o.data=.seq its n/\its.size<=sizeLine/\Vals vs its.toList
def iI.sq {K:Frag}{H:Hp}{a:Addr}{vs:List V}(h:iI K H a vs):a6 K H a vs:=by
 rcases h with ⟨o,h⟩|h
 ·exact .inl (.inr ⟨o,h⟩)
 ·exact .inr h
section
variable (K:Frag) (mg:Ab)
mutual
def R (ρ:Ae) (H:Hp):PV->V->Prop
 | .non,v=>v=.non
 | .bl b,v=>v=.bl b
 | .int i,v=>v=.int i
 | .str x,v=>v=.str x
 | .ty n,v=>v=.ty n
 | .tup xs,v=>∃a vs,v=.ref a/\a9 K H a vs/\Rs ρ H xs vs
 | .frl xs,v=>∃a vs,v=.ref a/\iI K H a vs/\Rs ρ H xs vs
 | .ref n,v=>∃a,v=.ref a/\ρ[n]?=some a
 | .fn x,v=>∃f,v=.ref f/\mg x=some (.ref f)
 | .kd ks xs,v=>∃a us vs,v=.ref a/\Mt K a ks us/\Vals vs us/\Rs ρ H xs vs
 | .exo c ks xs,v=>∃a C d vs,v=.ref a/\mg c=some (.ref C)/\H a=some (gG C (some d) a)/\H d=some (.xd (ks.zip vs))/\Rs ρ H xs vs/\ks.length=vs.length
def Rs (ρ:Ae) (H:Hp):List PV->List V->Prop
 | [],vs=>vs=[]
 | x::xs,vs=>∃v r,vs=v::r/\R ρ H x v/\Rs ρ H xs r
end
def dE (a:Addr) (its:List (List Key×Addr×Value)):HO:=.ext λP w h=>its.length<=sizeLine/\(a==sysModules)=false /\
 ∃o es ep,h.get? a=some o/\o.ExactDict/\o.data=.dict es ep/\es.toList=its.map (entryOfKey (tupleKind (bf P w)))/\(its.map (·.1)).Nodup
def gY (ρ:Ae) (H:Hp):SO->Addr->Prop
 | .lst xs,a=>∃vs,H a=some (.lst vs)/\Rs K mg ρ H xs vs
 | .dic ks xs,a=>∃vs,H a=some (.dK ((ks.map Sum.inr).zip vs))/\Rs K mg ρ H xs vs/\ks.length=vs.length
 | .ins c ks xs,a=>∃C dx vs,mg c=some (.ref C)/\H a=some (.ins C dx (ks.zip vs))/\Rs K mg ρ H xs vs/\ks.length=vs.length
 | .fdi ks xs,a=>∃o vs,H a=some (.frz o (.dK ((ks.map Sum.inr).zip vs)))/\Rs K mg ρ H xs vs/\ks.length=vs.length
 | .dit ks xs,a=>∃its vs,H a=some (dE a its)/\its.map (·.1)=ks/\(∀x,x∈its->a9 K H x.2.1 (x.1.map kV))/\Vals vs (its.map (·.2.2))/\Rs K mg ρ H xs vs
structure a7 (ρ:Ae) (H:Hp) (st:aa):Prop where
 len:ρ.length=st.length
 nd:ρ.Nodup
 at_:∀(n:Nat) so,st[n]?=some so->∃a,ρ[n]?=some a/\gY K mg ρ H so a
def Still (φ:Program->World->Heap->Prop):Prop:=∀P w,∃h:Heap,φ P w h/\∀b o es ep,h.get? b=some o->o.data ≠ .dict es ep
open Classical in
noncomputable def si:HO->Bool
 | .tup _=>true
 | .frz _ _=>true
 | .xd _=>true
 | .ext φ=>decide (Still φ)
 | _=>false
structure Ext (ρ:Ae) (H:Hp) (aj:Ae) (H':Hp):Prop where
 pre:∃δ,aj=ρ++δ
 imm:∀a o,H a=some o->si o=true->H' a=some o
def Mu {C:Addr}{d:Option Addr}{a:Addr}:si (gG C d a)=true:=by
 have st:Still λ_ _ h=>∃T:Addr,XO h a (.ref C) d (.ref T):=λP w=>by
  have g:∀b,(Heap.mk (Array.replicate (a+1) { cls:=.ref C,dict:=d,data:=.fields #[.none,.ref 0,.none,.none,.none,.none] }) {}).get? b=if b<a+1 then some { cls:=.ref C,dict:=d,data:=.fields #[.none,.ref 0,.none,.none,.none,.none] } else none:=by
   intro b
   unfold Heap.get?
   by_cases hb:b<a+1
   ·simp [Array.getElem?_replicate,hb]
   ·simp [Array.getElem?_replicate,hb]
  refine ⟨_,⟨0,_,_,(g a).trans (zx (jK a)),rfl,rfl,rfl,rfl,rfl⟩,λb o es ep e=>?_⟩
  rw [g b] at e
  split at e
  ·cases e;intro z;cases z
  ·cases e
 exact @decide_eq_true _ (Classical.propDecidable _) st
def Mv (P:Program) (w:World) {a:Addr}{its:List (List Key×Addr×Value)}:si (dE a its)=false:=by
 refine @decide_eq_false _ (Classical.propDecidable _) λst=>?_
 obtain ⟨h,⟨_,_,o,es,ep,e,_,d,_⟩,n⟩:=st P w
 exact n _ _ _ _ e d
def XR (ρ:Ae) (H:Hp) (c:Str) (ks:Ad) (xs:List PV) (Cv:Value) (d:Option Addr):Prop :=
 ∃C,Cv=.ref C/\mg c=some (.ref C)/\((ks=[]/\d=none)\/∃dd vs,d=some dd/\H dd=some (.xd (ks.zip vs))/\Rs K mg ρ H xs vs/\ks.length=vs.length)
def Out {α:Type}(ρ:Ae) (H:Hp) (r:Res α) (good:List Addr->Hp->α->aa->Prop) (E:XK):Prop :=
 match r with
 | .ok x st=>∀aj H',Ext ρ H aj H'->a7 K mg aj H' st->good aj H' x st
 | .err c ks xs st=>∀aj H' C d,Ext ρ H aj H'->a7 K mg aj H' st->XR K mg aj H' c ks xs C d->E C d H'
 | .stuck=>False
structure a8 (ρ:Ae) (H:Hp) (env:zd) (U:St):Prop where
 len:env.length=U.length
 at_:∀(i:Nat) x,env[i]?=some (some x)->∃v,U[i]?=some (some v)/\R K mg ρ H x v
def gV (Q:VK):List Addr->Hp->PV->aa->Prop:=fun ρ H x _=>∀v,R K mg ρ H x v->Q v H
def Mw (Q:List V->Hp->Prop):List Addr->Hp->List PV->aa->Prop:=fun ρ H x _=>∀v,Rs K mg ρ H x v->Q v H
def gB (Q:Bool->Hp->Prop):List Addr->Hp->Bool->aa->Prop:=λ_ H x _=>Q x H
inductive Fl where
 | nx (env:zd)|rt (x:PV)|bk (env:zd)|ct (env:zd)
abbrev Ag:=List (List Key)
abbrev Ah:=zd->Mo (List PV)
abbrev Ai:=zd->Mo PV
abbrev Aj:=zd->Mo Fl
abbrev Ak:=zd->Mo Bool
abbrev Al:=List PV->Mo PV
abbrev Am:=PV->PV->Mo PV
abbrev An:=List PV
abbrev Ao:=Option PV
def gS (D:Ends):List Addr->Hp->Fl->aa->Prop:=fun ρ H x _ =>
 match x with
 | .nx env=>∀U,a8 K mg ρ H env U->D.nx U H
 | .rt x=>∀v,R K mg ρ H x v->D.rt v H
 | .bk env=>∀U,a8 K mg ρ H env U->D.bk U H
 | .ct env=>∀U,a8 K mg ρ H env U->D.ct U H
end
section
variable {K:Frag}{mg:Ab}{ρ ag aq:Ae}{H H1 H2:Hp}
def Ext.refl:Ext ρ H ρ H:=⟨⟨[],by simp⟩,λ_ _ h _=>h⟩
def Ext.trans (a:Ext ρ H ag H1) (b:Ext ag H1 aq H2):Ext ρ H aq H2:=by
 obtain ⟨⟨d,hd⟩,i⟩:=a
 obtain ⟨⟨d',gr⟩,i'⟩:=b
 exact ⟨⟨d++d',by rw [gr,hd,wM]⟩,λa o h m=>i' a o (i a o h m) m⟩
def Ext.get (a:Ext ρ H ag H1) {n:Nat}{p:Addr}(h:ρ[n]?=some p):ag[n]?=some p:=by
 obtain ⟨⟨d,hd⟩,_⟩:=a
 rw [hd,ib (yv.mp h).1]
 exact h
def Ext.sqT (e:Ext ρ H ag H1) {a:Addr}{xs:List V}(h:a9 K H a xs):a9 K H1 a xs:=by
 rcases h with (h|⟨o,h⟩)|h
 ·exact .inl (.inl (e.imm _ _ h rfl))
 ·exact .inl (.inr ⟨o,e.imm _ _ h rfl⟩)
 ·exact .inr h
def Ext.frl (e:Ext ρ H ag H1) {a:Addr}{xs:List V}(h:iI K H a xs):iI K H1 a xs:=by
 rcases h with ⟨o,h⟩|h
 ·exact .inl ⟨o,e.imm _ _ h rfl⟩
 ·exact .inr h
mutual
theorem R.ext (e:Ext ρ H ag H1):∀(x:PV) {v:V},R K mg ρ H x v->R K mg ag H1 x v
 | .non,_,h=>h
 | .bl _,_,h=>h
 | .int _,_,h=>h
 | .str _,_,h=>h
 | .ty _,_,h=>h
 | .tup xs,_,h=>by
  obtain ⟨a,vs,h1,h2,h3⟩:=h
  exact ⟨a,vs,h1,e.sqT h2,Rs.ext e xs h3⟩
 | .frl xs,_,h=>by
  obtain ⟨a,vs,h1,h2,h3⟩:=h
  exact ⟨a,vs,h1,e.frl h2,Rs.ext e xs h3⟩
 | .ref n,_,h=>by
  obtain ⟨a,h1,h2⟩:=h
  exact ⟨a,h1,e.get h2⟩
 | .fn _,_,h=>h
 | .kd ks xs,_,h=>by
  obtain ⟨a,us,vs,h1,h2,h4,h3⟩:=h
  exact ⟨a,us,vs,h1,h2,h4,Rs.ext e xs h3⟩
 | .exo c ks xs,_,h=>by
  obtain ⟨a,C,d,vs,h1,h2,h3,h4,h5,h6⟩:=h
  exact ⟨a,C,d,vs,h1,h2,e.imm _ _ h3 Mu,e.imm _ _ h4 rfl,Rs.ext e xs h5,h6⟩
theorem Rs.ext (e:Ext ρ H ag H1):∀(xs:An) {vs:List V},Rs K mg ρ H xs vs->Rs K mg ag H1 xs vs
 | [],_,h=>h
 | x::xs,_,h=>by
  obtain ⟨v,r,h1,h2,h3⟩:=h
  exact ⟨v,r,h1,R.ext e x h2,Rs.ext e xs h3⟩
end
def a8.ext (e:Ext ρ H ag H1) {env:zd}{U:St}(h:a8 K mg ρ H env U):a8 K mg ag H1 env U :=
 ⟨h.len,λi x hx=>let ⟨v,a,b⟩:=h.at_ i x hx;⟨v,a,R.ext e x b⟩⟩
theorem Rs.len:∀{xs:An}{vs:List V},Rs K mg ρ H xs vs->xs.length=vs.length
 | [],_,h=>by cases h;rfl
 | x::xs,_,h=>by
  obtain ⟨v,r,rfl,_,h3⟩:=h
  simp [Rs.len h3]
theorem Rs.get:∀{xs:An}{vs:List V}{i:Nat}{x:PV},Rs K mg ρ H xs vs->xs[i]?=some x->∃v,vs[i]?=some v/\R K mg ρ H x v
 | [],_,_,_,_,e=>by simp at e
 | x::xs,_,0,_,h,e=>by
  obtain ⟨v,r,rfl,h2,h3⟩:=h
  simp at e
  subst e
  exact ⟨v,by simp,h2⟩
 | x::xs,_,i+1,y,h,e=>by
  obtain ⟨v,r,rfl,h2,h3⟩:=h
  simp at e
  obtain ⟨v',h4,h5⟩:=Rs.get h3 e
  exact ⟨v',by simpa using h4,h5⟩
theorem Rs.append:∀{xs ys:An}{vs ws:List V},Rs K mg ρ H xs vs->Rs K mg ρ H ys ws->Rs K mg ρ H (xs++ys) (vs++ws)
 | [],_,_,_,h,h'=>by cases h;exact h'
 | x::xs,_,_,_,h,h'=>by
  obtain ⟨v,r,rfl,h2,h3⟩:=h
  exact ⟨v,r++_,rfl,h2,Rs.append h3 h'⟩
theorem Rs.take:∀{xs:An}{vs:List V}(n:Nat),Rs K mg ρ H xs vs->Rs K mg ρ H (xs.take n) (vs.take n)
 | [],_,n,h=>by cases h;simp [Rs]
 | x::xs,_,0,h=>by simp [Rs]
 | x::xs,_,n+1,h=>by
  obtain ⟨v,r,rfl,h2,h3⟩:=h
  exact ⟨v,_,rfl,h2,Rs.take n h3⟩
theorem Rs.drop:∀{xs:An}{vs:List V}(n:Nat),Rs K mg ρ H xs vs->Rs K mg ρ H (xs.drop n) (vs.drop n)
 | [],_,n,h=>by cases h;simp [Rs]
 | x::xs,_,0,h=>h
 | x::xs,_,n+1,h=>by
  obtain ⟨v,r,rfl,h2,h3⟩:=h
  exact Rs.drop n h3
def a8.set {env:zd}{U:St}{x:PV}{v:V}(h:a8 K mg ρ H env U) (i:Nat) (r:R K mg ρ H x v):a8 K mg ρ H (env.set i (some x)) (U.set i (some v)):=by
 refine ⟨by simp [h.len],λj y hy=>?_⟩
 rw [List.getElem?_set] at hy ⊢
 by_cases dq:i=j
 ·subst dq
  by_cases hl:i<env.length
  ·rw [zx rfl,zx hl] at hy
   rw [zx rfl,zx (by rw [<-h.len];exact hl)]
   cases hy
   exact ⟨v,rfl,r⟩
  ·rw [zx rfl,zH hl] at hy
   cases hy
 ·rw [zH dq] at hy ⊢
  exact h.at_ j y hy
def a8.unset {env:zd}{U:St}(h:a8 K mg ρ H env U) (i:Nat):a8 K mg ρ H (env.set i none) (U.set i none):=by
 refine ⟨by simp [h.len],λj y hy=>?_⟩
 rw [List.getElem?_set] at hy ⊢
 by_cases dq:i=j
 ·subst dq
  by_cases hl:i<env.length
  ·rw [zx rfl,zx hl] at hy
   cases hy
  ·rw [zx rfl,zH hl] at hy
   cases hy
 ·rw [zH dq] at hy ⊢
  exact h.at_ j y hy
def a8.cons {env:zd}{U:St}{x:PV}{v:V}(h:a8 K mg ρ H env U) (r:R K mg ρ H x v):a8 K mg ρ H (some x::env) (some v::U):=by
 refine ⟨by simp [h.len],λj y hy=>?_⟩
 cases j with
 | zero=>simp at hy;subst hy;exact ⟨v,by simp,r⟩
 | succ j=>simp at hy;simpa using h.at_ j y hy
def a7.addr {st:aa}{n:Nat}{so:SO}(s:a7 K mg ρ H st) (e:st[n]?=some so) {a:Addr}(ha:ρ[n]?=some a):gY K mg ρ H so a:=by
 obtain ⟨b,hb,h⟩:=s.at_ n so e
 rw [ha] at hb
 cases hb
 exact h
def gY.some {so:SO}{a:Addr}(h:gY K mg ρ H so a):∃o,H a=some o/\True:=by
 cases so with
 | lst xs=>obtain ⟨vs,h,_⟩:=h;exact ⟨_,h,trivial⟩
 | dic ks xs=>obtain ⟨vs,h,_⟩:=h;exact ⟨_,h,trivial⟩
 | ins c ks xs=>obtain ⟨C,dx,vs,_,h,_⟩:=h;exact ⟨_,h,trivial⟩
 | fdi ks xs=>obtain ⟨o,vs,h,_⟩:=h;exact ⟨_,h,trivial⟩
 | dit ks xs=>obtain ⟨its,vs,h,_⟩:=h;exact ⟨_,h,trivial⟩
def a7.in_ {st:aa}{n:Nat}{a:Addr}(s:a7 K mg ρ H st) (h:ρ[n]?=some a):∃so,st[n]?=some so/\gY K mg ρ H so a:=by
 have hl:n<st.length:=by rw [<-s.len];exact (yv.mp h).1
 refine ⟨st[n],by simp [hl],s.addr (by simp [hl]) h⟩
def gY.ext' {so:SO}{a:Addr}(e:Ext ρ H ag H1) (h:gY K mg ρ H so a) (k:H1 a=H a):gY K mg ag H1 so a:=by
 cases so with
 | lst xs=>obtain ⟨vs,h1,h2⟩:=h;exact ⟨vs,by rw [k];exact h1,Rs.ext e xs h2⟩
 | dic ks xs=>obtain ⟨vs,h1,h2,h3⟩:=h;exact ⟨vs,by rw [k];exact h1,Rs.ext e xs h2,h3⟩
 | ins c ks xs=>obtain ⟨C,dx,vs,h0,h1,h2,h3⟩:=h;exact ⟨C,dx,vs,h0,by rw [k];exact h1,Rs.ext e xs h2,h3⟩
 | fdi ks xs=>obtain ⟨o,vs,h1,h2,h3⟩:=h;exact ⟨o,vs,by rw [k];exact h1,Rs.ext e xs h2,h3⟩
 | dit ks xs=>obtain ⟨its,vs,h1,h2,h3,h4,h5⟩:=h;exact ⟨its,vs,by rw [k];exact h1,h2,λx hx=>e.sqT (h3 x hx),h4,Rs.ext e xs h5⟩
def Ext.new {p:Addr}{o:HO}(hp:H p=none):Ext ρ H ρ (upd H p o) :=
 ⟨⟨[],by simp⟩,λa o' h _=>by rw [yc (wO h hp)];exact h⟩
def a7.new {st:aa}{p:Addr}{o:HO}(s:a7 K mg ρ H st) (hp:H p=none):a7 K mg ρ (upd H p o) st :=
 ⟨s.len,s.nd,λn so e=>by
  obtain ⟨a,ha,h⟩:=s.at_ n so e
  obtain ⟨o',ho,_⟩:=h.some
  exact ⟨a,ha,h.ext' (Ext.new hp) (yc (wO ho hp))⟩⟩
def Ext.push {p:Addr}{o:HO}(hp:H p=none):Ext ρ H (ρ++[p]) (upd H p o) :=
 ⟨⟨[p],rfl⟩,λa o' h _=>by rw [yc (wO h hp)];exact h⟩
theorem a7.push {st:aa}{p:Addr}{o:HO}{so:SO}(s:a7 K mg ρ H st) (hp:H p=none) (n:gY K mg (ρ++[p]) (upd H p o) so p):a7 K mg (ρ++[p]) (upd H p o) (st++[so]):=by
 refine ⟨by simp [s.len],?_,λi nJ e=>?_⟩
 ·refine List.nodup_append.mpr ⟨s.nd,by simp,λa ha b hb=>?_⟩
  obtain rfl:b=p:=by simpa using hb
  obtain ⟨n,hn⟩:=List.getElem?_of_mem ha
  obtain ⟨nJ,_,h⟩:=s.in_ hn
  obtain ⟨o',ho,_⟩:=h.some
  exact wO ho hp
 ·by_cases hi:i<st.length
  ·rw [ib hi] at e
   obtain ⟨a,ha,h⟩:=s.at_ i nJ e
   obtain ⟨o',ho,_⟩:=h.some
   exact ⟨a,(Ext.push (o:=o) hp).get ha,h.ext' (Ext.push hp) (yc (wO ho hp))⟩
  ·rw [ic (by omega)] at e
   have nC:i=st.length:=by
    have:=(yv.mp e).1
    simp at this
    omega
   subst nC
   simp at e
   subst e
   exact ⟨p,by rw [<-s.len];simp,n⟩
def Ext.write {a:Addr}{o o':HO}(ha:H a=some o) (hi:si o=false):Ext ρ H ρ (upd H a o') :=
 ⟨⟨[],by simp⟩,λb u h m=>by
  rw [yc]
  ·exact h
  ·intro z;subst z;rw [ha] at h;cases h;rw [hi] at m;cases m⟩
def a7.write {st:aa}{n:Nat}{a:Addr}{o':HO}{so:SO}(s:a7 K mg ρ H st) (hn:ρ[n]?=some a) (ew:Ext ρ H ρ (upd H a o')) (h:gY K mg ρ (upd H a o') so a):a7 K mg ρ (upd H a o') (st.set n so):=by
 refine ⟨by simp [s.len],s.nd,λi nJ e=>?_⟩
 rw [List.getElem?_set] at e
 by_cases dq:n=i
 ·subst dq
  rw [zx rfl] at e
  split at e
  ·cases e;exact ⟨a,hn,h⟩
  ·cases e
 ·rw [zH dq] at e
  obtain ⟨b,hb,q⟩:=s.at_ i nJ e
  have ne:b≠a:=by
   intro z
   subst z
   obtain ⟨h1,h2⟩:=yv.mp hn
   obtain ⟨h3,h4⟩:=yv.mp hb
   have pw:=List.pairwise_iff_getElem.mp s.nd
   rcases Nat.lt_trichotomy n i with c|c|c
   ·exact pw n i h1 h3 c (h2.trans h4.symm)
   ·exact dq c
   ·exact pw i n h3 h1 c (h4.trans h2.symm)
  exact ⟨b,hb,q.ext' ew (yc ne)⟩
section
variable {α β:Type}{E:XK}{good:List Addr->Hp->α->aa->Prop}
def Out.ext {r:Res α}(h:Out K mg ρ H r good E) (e:Ext ρ H ag H1):Out K mg ag H1 r good E:=by
 cases r with
 | ok x st=>exact λaj H' e' s=>h aj H' (e.trans e') s
 | err c ks xs st=>exact λaj H' C d e' s x=>h aj H' C d (e.trans e') s x
 | stuck=>exact h
def Out.mono {r:Res α}{d_:List Addr->Hp->α->aa->Prop}(h:Out K mg ρ H r good E) (g:∀aj H' x st,Ext ρ H aj H'->a7 K mg aj H' st->good aj H' x st->d_ aj H' x st):Out K mg ρ H r d_ E:=by
 cases r with
 | ok x st=>exact λaj H' e' s=>g aj H' x st e' s (h aj H' e' s)
 | err c ks xs st=>exact h
 | stuck=>exact h
def Out.bind {r:Res β}{f:β->Mo α}(h:Out K mg ρ H (r.bind f) good E):Out K mg ρ H r (λaj H' x st=>Out K mg aj H' (f x st) good E) E:=by
 cases r with
 | ok x st=>exact λaj H' e' s=>Out.ext h e'
 | err c ks xs st=>exact h
 | stuck=>exact h
def Out.then {r:Res β}{f:β->Mo α}{d_:List Addr->Hp->β->aa->Prop}(h:Out K mg ρ H (r.bind f) good E) (g:∀aj H' x st,Ext ρ H aj H'->a7 K mg aj H' st->Out K mg aj H' (f x st) good E->d_ aj H' x st):Out K mg ρ H r d_ E:=h.bind.mono g
def Out.now {x:α}{st:aa}(h:Out K mg ρ H (.ok x st) good E) (s:a7 K mg ρ H st):good ρ H x st:=h ρ H Ext.refl s
end
end
end Mi
namespace Mi
open PySem L2 PySem.W PySem.Spec
abbrev lim:Nat:=1000000
def yR {n:Nat}(h:n<=lim):n<=sizeLine:=by rw [sizeLine_eq];show n<=16777216;exact y4 h (by decide)
section
variable (K:Frag) (mg:Ab)
def tM (Er:XK) (f:Ai):TE:=λU H Q=>∃env st ρ,a8 K mg ρ H env U/\a7 K mg ρ H st/\Out K mg ρ H (f env st) (gV K mg Q) Er
def l8 (Er:XK) (f:Ak):TT:=λU H Q=>∃env st ρ,a8 K mg ρ H env U/\a7 K mg ρ H st/\Out K mg ρ H (f env st) (gB Q) Er
def Mx (Er:XK) (f:Ah):TA:=λU H Q=>∃env st ρ,a8 K mg ρ H env U/\a7 K mg ρ H st/\Out K mg ρ H (f env st) (Mw K mg Q) Er
def sM (Er:XK) (f:Aj):TS:=λD U H=>∃env st ρ,a8 K mg ρ H env U/\a7 K mg ρ H st/\Out K mg ρ H (f env st) (gS K mg D) Er
end
def ME (X:Cx) (Er:XK) (e:Expr) (f:Ai):Prop:=PE X e (tM X.K X.mg Er f)
def MT (X:Cx) (Er:XK) (e:Expr) (f:Ak):Prop:=PT X e (l8 X.K X.mg Er f)
def MW (X:Cx) (Er:XK) (e:Expr) (f:Ak):Prop:=PW X e (l8 X.K X.mg Er f)
def MA (X:Cx) (Er:XK) (e:List Expr) (f:Ah):Prop:=PA X e (Mx X.K X.mg Er f)
def MS (X:Cx) (Er:XK) (e:Stmt) (f:Aj):Prop:=PS X e (sM X.K X.mg Er f)
def fB (X:Cx) (Er:XK) (e:List Stmt) (f:Aj):Prop:=cy X e (sM X.K X.mg Er f)
section
variable {X:Cx}{Er:XK}{e a b c:Expr}{es:List Expr}{pos:Pos}{t t':TE}
def PE.weak (h:PE X e t) (w:∀U H Q,t' U H Q->t U H Q):PE X e t':=λpins s U H Q I q=>h pins s U H Q I (w U H Q q)
def PT.weak {t t':TT}(h:PT X e t) (w:∀U H Q,t' U H Q->t U H Q):PT X e t':=λpins s U H Q I q=>h pins s U H Q I (w U H Q q)
def PW.weak {t t':TT}(h:PW X e t) (w:∀U H Q,t' U H Q->t U H Q):PW X e t':=λwh pins s U H Q I q=>h wh pins s U H Q I (w U H Q q)
def PA.weak {t t':TA}(h:PA X es t) (w:∀U H Q,t' U H Q->t U H Q):PA X es t':=λpos pins s U H Q I q=>h pos pins s U H Q I (w U H Q q)
def PS.weak {st:Stmt}{t t':TS}(h:PS X st t) (w:∀D U H,t' D U H->t D U H):PS X st t':=λpins s U H D I q=>h pins s U H D I (w D U H q)
def cy.weak {st:List Stmt}{t t':TS}(h:cy X st t) (w:∀D U H,t' D U H->t D U H):cy X st t':=λpins s U H D I q=>h pins s U H D I (w D U H q)
def zc (i:Nat):Ai:=λenv st=>match env[i]? with
 | some (some x)=>.ok x st
 | _=>.stuck
def mC (x:PV):Ai:=λ_ st=>.ok x st
def zg (i:Nat) {x:Str} {pos:Pos} (hN:X.N[i]?=some x:=by rfl) (hv:ri X.env.scope x:=by first|exact Or.inl rfl|exact Or.inr (Or.inl rfl)|exact Or.inr (Or.inr rfl)) (hd:(x==("__debug__" : Str))=false:=by decide)
  (fX:(x==("__classdict__" : Str))=false:=by decide):ME X Er (.Name x pos) (zc i):=PE.weak (Iy hN hv hd fX) λU H Q ⟨env,st,ρ,re,rs,h⟩=>by
 unfold zc at h
 split at h
 ·rename_i x' hx
  obtain ⟨v,h1,h2⟩:=re.at_ i x' hx
  exact ⟨v,h1,h.now rs v h2⟩
 ·exact h.elim
def nK {x:PV}{v:V}(hp:PE X e (tC v)) (hr:∀ρ H,R X.K X.mg ρ H x v):ME X Er e (mC x):=PE.weak hp λU H Q ⟨env,st,ρ,re,rs,h⟩=>h.now rs v (hr ρ H)
def zw {i:Int}{j}:ME X Er (.Constant (.int i) j pos) (mC (.int i)):=nK Iz λ_ _=>rfl
def yf {x:Str}{j}:ME X Er (.Constant (.str x) j pos) (mC (.str x)):=nK IC λ_ _=>rfl
def zb4 {b:Bool}{j}:ME X Er (.Constant (.bool b) j pos) (mC (.bl b)):=nK IA λ_ _=>rfl
def wz {j}:ME X Er (.Constant .none j pos) (mC .non):=nK IB λ_ _=>rfl
def My {x:Str} {p:PV} {v:V} {u:Value} (hm:X.mg x=some u) (r:RelV v u) (hr:∀ρ H,R X.K X.mg ρ H p v) (hg:Gl X x:=by rfl) (hd:(x==("__debug__" : Str))=false:=by decide):ME X Er (.Name x pos) (mC p):=nK (uY hg hm r hd) hr
def d5 (K:Frag) (mg:Ab) (r:R2) (op:Am):Prop:=∀ρ H st x y v w (Q:VK) (E:XK),a7 K mg ρ H st->R K mg ρ H x v->R K mg ρ H y w->Out K mg ρ H (op x y st) (gV K mg Q) E->r v w H Q
def zh (op:Am) (fa fb:Ai):Ai:=λenv st=>(fa env st).bind λx ae=>(fb env ae).bind λy aA=>op x y aA
variable {fa fb fc:Ai}
def sj {r:R2}{op:Am}{K:Frag}{mg:Ab}(hm:d5 K mg r op) {U:St}{H:Hp}{Q:VK}(h:tM K mg Er (zh op fa fb) U H Q):oY r (tM K mg Er fa) (tM K mg Er fb) U H Q:=by
 obtain ⟨env,st,ρ,re,rs,h⟩:=h
 exact ⟨env,st,ρ,re,rs,h.then λag H1 x ae e1 s1 h1 v rv=>⟨env,ae,ag,re.ext e1,s1,h1.then λaq H2 y aA e2 s2 h2 w rw=>hm aq H2 aA x y v w Q Er s2 (R.ext e2 x rv) rw h2⟩⟩
def Mz {o:Operator}{r:R2}{op:Am}(ho:ba X (binaryOp o) r) (hm:d5 X.K X.mg r op) (ha:ME X Er a fa) (hb:ME X Er b fb):ME X Er (.BinOp a o b pos) (zh op fa fb) :=
 PE.weak (JI ho ha hb) λU H Q h=>sj hm h
def MB {o:CmpOp}{r:R2}{op:Am}(ho:ba X (compareOp o) r) (hm:d5 X.K X.mg r op) (ha:ME X Er a fa) (hb:ME X Er b fb) (hk:behindInMarks o b=false):ME X Er (.Compare a [o] [b] pos) (zh op fa fb) :=
 PE.weak (JY ho ha hb hk) λU H Q h=>sj hm h
def gm:PV->Mo Bool
 | .bl b,st=>.ok b st
 | _,_=>.stuck
def mB (f:Ai):Ak:=λenv st=>(f env st).bind gm
def MC {K:Frag}{mg:Ab}{ρ:Ae}{H:Hp}{x:PV}{st:aa}{Q:Bool->Hp->Prop}(s:a7 K mg ρ H st) (h:Out K mg ρ H (gm x st) (gB Q) Er) {v:V}(r:R K mg ρ H x v):∃k,v=.bl k/\Q k H:=by
 unfold gm at h
 split at h
 ·cases r;exact ⟨_,rfl,h.now s⟩
 ·exact h.elim
def sk {α:Type}{K:Frag}{mg:Ab}{ρ:Ae}{H:Hp}{x:PV}{st:aa}{f:Bool->Mo α}{good:List Addr->Hp->α->aa->Prop}(h:Out K mg ρ H ((gm x st).bind f) good Er):∃k,x=.bl k/\Out K mg ρ H (f k st) good Er:=by
 cases x with
 | bl k=>exact ⟨k,rfl,h⟩
 | _=>exact h.elim
def vU {f:Ai}{K:Frag}{mg:Ab}{U:St}{H:Hp}{Q:Bool->Hp->Prop}(h:l8 K mg Er (mB f) U H Q):tM K mg Er f U H λx H1=>∃c,x=.bl c/\Q c H1:=by
 obtain ⟨env,st,ρ,re,rs,h⟩:=h
 exact ⟨env,st,ρ,re,rs,h.then λag H1 x ae e1 s1 h1 v rv=>MC s1 h1 rv⟩
def MD {o:CmpOp}{r:R2}{op:Am}(ho:ba X (compareOp o) r) (hm:d5 X.K X.mg r op) (ha:ME X Er a fa) (hb:ME X Er b fb) (hk:behindInMarks o b=false):MT X Er (.Compare a [o] [b] pos) (mB (zh op fa fb)) :=
 PT.weak (BC ho ha hb hk) λU H Q h=>sj hm (vU h)
def jL (h:ME X Er e fa) (he:∀whole,isTrue e X.env whole=(do let v <-whole;standAt e.pos;holding [v] (truthy v)):=by intro _;rfl):MT X Er e (mB fa) :=
 PT.weak (IE h he) λU H Q h=>vU h
def pM (op dX:Am) (fa fb fc:Ai):Ai:=λenv st=>(fa env st).bind λx ae=>(fb env ae).bind λy aA=>(op x y aA).bind λk a0=>(gm k a0).bind λb cY =>
 if b=true then (fc env cY).bind λz dm=>dX y z dm else .ok (.bl false) cY
def MF {r r':R2}{op dX:Am}{K:Frag}{mg:Ab}(hm:d5 K mg r op) (hm':d5 K mg r' dX) {U:St}{H:Hp}{Q:VK}(h:tM K mg Er (pM op dX fa fb fc) U H Q):BD r r' (tM K mg Er fa) (tM K mg Er fb) (tM K mg Er fc) U H Q:=by
 obtain ⟨env,st,ρ,re,rs,h⟩:=h
 refine ⟨env,st,ρ,re,rs,h.then λag H1 x ae e1 s1 h1 v rv=>⟨env,ae,ag,re.ext e1,s1,h1.then λaq H2 y aA e2 s2 h2 w rw=>?_⟩⟩
 refine hm aq H2 aA x y v w _ Er s2 (R.ext e2 x rv) rw (h2.then λak H3 z a0 e3 s3 h3 u ru=>?_)
 obtain ⟨b,rfl,h4⟩:=sk h3
 cases ru
 refine ⟨b,rfl,?_⟩
 cases b with
 | true=>exact ⟨env,a0,ak,((re.ext e1).ext e2).ext e3,s3,Out.then (f:=λz dm=>dX y z dm) h4 λaQ H5 z dm e5 s5 h5 w' dn=>hm' aQ H5 dm y z w w' Q Er s5 (R.ext e5 y (R.ext e3 y rw)) dn h5⟩
 | false=>exact Out.now (x:=PV.bl false) h4 s3 _ rfl
def MH {o o':CmpOp}{r r':R2}{op dX:Am}(ho:ba X (compareOp o) r) (hm:d5 X.K X.mg r op) (ho':ba X (compareOp o') r') (hm':d5 X.K X.mg r' dX) (ha:ME X Er a fa) (hb:ME X Er b fb) (hc:ME X Er c fc)
  (hk:lastMarks [o,o'] [b,c]=false:=by with_unfolding_all rfl):ME X Er (.Compare a [o,o'] [b,c] pos) (pM op dX fa fb fc):=PE.weak (J1 ho ho' ha hb hc hk) λU H Q h=>MF hm hm' h
def C0 (K:Frag) (mg:Ab) (r:V->Hp->VK->Prop) (op:PV->Mo PV):Prop:=∀ρ H st x v (Q:VK) (E:XK),a7 K mg ρ H st->R K mg ρ H x v->Out K mg ρ H (op x st) (gV K mg Q) E->r v H Q
def yg (op:PV->Mo PV) (fa:Ai):Ai:=λenv st=>(fa env st).bind op
def MK {o:UnaryOp}{r:V->Hp->VK->Prop}{op:PV->Mo PV}(ho:oX X (unaryOp o) r) (hm:C0 X.K X.mg r op) (ha:ME X Er a fa):ME X Er (.UnaryOp o a pos) (yg op fa) :=
 PE.weak (JJ ho ha) λU H Q ⟨env,st,ρ,re,rs,h⟩=>⟨env,st,ρ,re,rs,h.then λag H1 x ae e1 s1 h1 v rv=>hm ag H1 ae x v Q Er s1 rv h1⟩
variable {ga gb:Ak}{rest:List Expr}
def jF (ga gb:Ak):Ak:=λenv st=>(ga env st).bind λc ae=>if c=true then gb env ae else .ok false ae
def wA (ga gb:Ak):Ak:=λenv st=>(ga env st).bind λc ae=>if c=true then .ok true ae else gb env ae
def kC (ga:Ak):Ak:=λenv st=>(ga env st).bind λc ae=>.ok (!c) ae
def zbs (ha:MT X Er a ga):MW X Er (.BoolOp .And [a] pos) ga:=II ha
def zeA (ha:MT X Er a ga):MW X Er (.BoolOp .Or [a] pos) ga:=IK ha
def za0 (ha:MT X Er a ga) (hb:MW X Er (.BoolOp .And (b::rest) pos) gb):MW X Er (.BoolOp .And (a::b::rest) pos) (jF ga gb) :=
 PW.weak (IM ha hb) λU H Q ⟨env,st,ρ,re,rs,h⟩=>⟨env,st,ρ,re,rs,h.then λag H1 k ae e1 s1 h1=>by
  cases k with
  | true=>exact ⟨env,ae,ag,re.ext e1,s1,h1⟩
  | false=>exact h1.now s1⟩
def zde (ha:MT X Er a ga) (hb:MW X Er (.BoolOp .Or (b::rest) pos) gb):MW X Er (.BoolOp .Or (a::b::rest) pos) (wA ga gb) :=
 PW.weak (IQ ha hb) λU H Q ⟨env,st,ρ,re,rs,h⟩=>⟨env,st,ρ,re,rs,h.then λag H1 k ae e1 s1 h1=>by
  cases k with
  | false=>exact ⟨env,ae,ag,re.ext e1,s1,h1⟩
  | true=>exact h1.now s1⟩
def zai {op:BoolOp}(h:MW X Er (.BoolOp op es pos) ga):MT X Er (.BoolOp op es pos) ga:=PW.pt h
def zdf (ha:MT X Er a ga):MT X Er (.UnaryOp .Not a pos) (kC ga):=PT.weak (IU ha) λU H Q ⟨env,st,ρ,re,rs,h⟩=>⟨env,st,ρ,re,rs,h.then λag H1 k ae e1 s1 h1=>h1.now s1⟩
def kD (fa fb:Ai):Ai:=λenv st=>(fa env st).bind λx ae=>(gm x ae).bind λc aA=>if c=true then fb env aA else .ok (.bl false) aA
def C1 (fa fb:Ai):Ai:=λenv st=>(fa env st).bind λx ae=>(gm x ae).bind λc aA=>if c=true then .ok (.bl true) aA else fb env aA
def C2 (fa:Ai):Ai:=λenv st=>(fa env st).bind λx ae=>(gm x ae).bind λc aA=>.ok (.bl (!c)) aA
def zeB {op}(h:ME X Er a fa):ME X Er (.BoolOp op [a] pos) fa:=IZ h
def zht (ha:ME X Er a fa) (hb:ME X Er (.BoolOp .And (b::rest) pos) fb):ME X Er (.BoolOp .And (a::b::rest) pos) (kD fa fb) :=
 PE.weak (I_ ha hb) λU H Q ⟨env,st,ρ,re,rs,h⟩=>⟨env,st,ρ,re,rs,h.then λag H1 x ae e1 s1 h1 v rv=>by
  obtain ⟨k,rfl,h1⟩:=sk h1
  cases rv
  refine ⟨k,rfl,?_⟩
  cases k with
  | true=>exact ⟨env,ae,ag,re.ext e1,s1,h1⟩
  | false=>exact Out.now (x:=PV.bl false) h1 s1 _ rfl⟩
def zoE (ha:ME X Er a fa) (hb:ME X Er (.BoolOp .Or (b::rest) pos) fb):ME X Er (.BoolOp .Or (a::b::rest) pos) (C1 fa fb) :=
 PE.weak (Ja ha hb) λU H Q ⟨env,st,ρ,re,rs,h⟩=>⟨env,st,ρ,re,rs,h.then λag H1 x ae e1 s1 h1 v rv=>by
  obtain ⟨k,rfl,h1⟩:=sk h1
  cases rv
  refine ⟨k,rfl,?_⟩
  cases k with
  | false=>exact ⟨env,ae,ag,re.ext e1,s1,h1⟩
  | true=>exact Out.now (x:=PV.bl true) h1 s1 _ rfl⟩
def zoF (ha:ME X Er a fa):ME X Er (.UnaryOp .Not a pos) (C2 fa) :=
 PE.weak (Jb ha) λU H Q ⟨env,st,ρ,re,rs,h⟩=>⟨env,st,ρ,re,rs,h.then λag H1 x ae e1 s1 h1 v rv=>by
  obtain ⟨k,rfl,h1⟩:=sk h1
  cases rv
  exact ⟨k,rfl,Out.now (x:=PV.bl (!k)) h1 s1 _ rfl⟩⟩
def C3 (g:Ak) (fa fb:Ai):Ai:=λenv st=>(g env st).bind λc ae=>if c=true then fa env ae else fb env ae
def zoG {c:Expr}(hc:MT X Er c ga) (ha:ME X Er a fa) (hb:ME X Er b fb):ME X Er (.IfExp c a b pos) (C3 ga fa fb) :=
 PE.weak (Jd hc ha hb) λU H Q ⟨env,st,ρ,re,rs,h⟩=>⟨env,st,ρ,re,rs,h.then λag H1 k ae e1 s1 h1=>by
  cases k with
  | true=>exact ⟨env,ae,ag,re.ext e1,s1,h1⟩
  | false=>exact ⟨env,ae,ag,re.ext e1,s1,h1⟩⟩
def zk:Ah:=λ_ st=>.ok [] st
def ze (f:Ai) (fs:Ah):Ah:=λenv st=>(f env st).bind λx ae=>(fs env ae).bind λxs aA=>.ok (x::xs) aA
variable {fs:Ah}
def zp:MA X Er [] zk:=PA.weak rK λU H Q ⟨env,st,ρ,re,rs,h⟩=>h.now rs [] rfl
def C4 (ha:ME X Er e fa) (hr:MA X Er es fs) (hs:starEach (e::es) X.env=(false,eval e X.env)::starEach es X.env:=by rfl):MA X Er (e::es) (ze fa fs) :=
 PA.weak (rL ha hr hs) λU H Q ⟨env,st,ρ,re,rs,h⟩=>⟨env,st,ρ,re,rs,h.then λag H1 x ae e1 s1 h1 v rv=>⟨env,ae,ag,re.ext e1,s1,h1.then λaq H2 xs aA e2 s2 h2 vs vV =>
  h2.now s2 (v::vs) ⟨v,vs,rfl,R.ext e2 x rv,vV⟩⟩⟩
def yd (fs:Ah):Ai:=λenv st=>(fs env st).bind λxs ae=>if xs.length<=lim then .ok (.tup xs) ae else .stuck
def jz (fs:Ah):Ai:=λenv st=>(fs env st).bind λxs ae=>if xs.length<=lim then .ok (.ref ae.length) (ae++[.lst xs]) else .stuck
def R.tup_of {K:Frag}{mg:Ab}{ρ:Ae}{H:Hp}{xs:An}{vs:List V}{p:Addr}(r:Rs K mg ρ H xs vs) (hp:H p=none):R K mg ρ (upd H p (.tup vs)) (.tup xs) (.ref p) :=
 ⟨p,vs,rfl,a9.of y0,Rs.ext (Ext.new hp) xs r⟩
def yA {x1}(h:MA X Er es fs):ME X Er (.Tuple es x1 pos) (yd fs) :=
 PE.weak (Km h) λU H Q ⟨env,st,ρ,re,rs,h⟩=>⟨env,st,ρ,re,rs,h.then λag H1 xs ae e1 s1 h1 vs rv=>by
  split at h1
  ·rename_i hl
   exact ⟨by rw [<-rv.len];exact yR hl,λp hp=>h1 ag _ (Ext.new hp) (s1.new hp) _ (R.tup_of rv hp)⟩
  ·exact h1.elim⟩
def Out.newList {K:Frag}{mg:Ab}{ρ:Ae}{H:Hp}{st:aa}{xs:An}{vs:List V}{p:Addr}{Q:VK}(h:Out K mg ρ H (.ok (.ref st.length) (st++[.lst xs])) (gV K mg Q) Er) (s:a7 K mg ρ H st) (r:Rs K mg ρ H xs vs) (hp:H p=none):Q (.ref p) (upd H p (.lst vs)) :=
 h (ρ++[p]) _ (Ext.push hp) (s.push hp ⟨vs,y0,Rs.ext (Ext.push hp) xs r⟩) _ ⟨p,rfl,by rw [<-s.len];simp⟩
def jY (h:MA X Er es fs):ME X Er (.List es pos) (jz fs) :=
 PE.weak (Ko h) λU H Q ⟨env,st,ρ,re,rs,h⟩=>⟨env,st,ρ,re,rs,h.then λag H1 xs ae e1 s1 h1 vs rv=>by
  split at h1
  ·rename_i hl
   exact ⟨by rw [<-rv.len];exact yR hl,λp hp=>Out.newList h1 s1 rv hp⟩
  ·exact h1.elim⟩
def MM {r:R2}{op:Am}(ho:fI X r) (hm:d5 X.K X.mg r op) (ha:ME X Er a fa) (hb:ME X Er b fb) (hs:fH b:=by exact λ_ _=>rfl):ME X Er (.Subscript a b pos) (zh op fa fb) :=
 PE.weak (B_ ho ha hb hs) λU H Q h=>sj hm h
end
end Mi
namespace HT
open PySem PySem.Spec PyProof.Rows
section
variable {prog:Program}{w:World}{A:Around}{E:Aa}{s:Shared}
def getItem_tuple_all {t sl:Addr}{items:Array Value}{vl vu:Value}{lo hi:Option Int}{Q:Aa}(ht:IsTup s.heap t items) (hs:s.heap.IsSliceOf sl vl vu .none) (pl:IsPart vl lo) (pu:IsPart vu hi)
  (hw:sIx items.size 0 lo=0/\sIx items.size items.size hi=items.size) (h:Q (.ref t) s)
  (hsz:items.size<=sizeLine):wpAny (model prog w) A (getItem (.ref t) (.ref sl)) Q E s:=by
 obtain ⟨os,lJ,rP,o_⟩:=id hs
 have vc:s.TypeIs (.ref sl) "slice" := ⟨os,lJ,rP⟩
 unfold getItem
 try with_reducible refine wn ?_
 first|refine zt (zM ?_)|skip
 refine zt (wpAny_sequenceKey ht.typeIs (by decide) ?_)
 refine zt (wpAny_callSpecial?_slot (name:=Str.ofString "__getitem__") ht.typeIs PyProof.Rows.slot_tuple_getitem
  (wm PyProof.Rows.slot_tuple_getitem ht.typeIs entry_tuple_getitem ?_ (args_tuple_getitem _ _)))
 show wpAny _ _ (Builtin.Tuple.tupleItemsOf (.ref t) >>= _) _ _ s
 refine zt (tupleItemsOf_ ht ?_)
 refine zt (wpAny_typeOf vc ?_)
 rw [zx (by decide)]
 refine zt (B7 hs pl pu ?_)
 have C5:(((sIx items.size 0 lo:Nat):Int)==0&&(1:Int)==1&&(sIx items.size items.size hi-sIx items.size 0 lo)==items.size)=true:=by
  rw [hw.1,hw.2];simp
 show wpAny _ _ (if (((sIx items.size 0 lo:Nat):Int)==0&&(1:Int)==1&&(sIx items.size items.size hi-sIx items.size 0 lo)==items.size)=true then _ else _) _ _ s
 rw [zx C5]
 unfold Builtin.Tuple.tupleIsExact
 refine zt (zt (wpAny_typeOf ht.typeIs (zM ?_)))
 rw [zx (by decide)]
 exact zt (wpAny_rule (zM ⟨_,rfl,zM h⟩))
def cat_tup0 {t b:Addr}{ws:Af}{Q:Aa}(ht:IsTup s.heap t #[]) (hb:IsTup s.heap b ws.toArray) (h1:Q (.ref b) s):wpAny (model prog w) A (binaryOp .Add (.ref t) (.ref b)) Q E s:=by
 obtain ⟨⟨cls,dd,data,sl⟩,ho,hc,n,hd⟩:=id ht
 obtain ⟨⟨uI,lI,data2,iq⟩,ho2,gw,n2,hd2⟩:=id hb
 simp only at hc hd gw hd2
 subst hc hd gw hd2
 exact concat_meets ⟨_,ho,rfl⟩ ⟨_,ho2,rfl⟩ noFill_tuple_add seq_tuple_add PySem.F.slot_tuple_add PySem.F.entry_tuple_add (PySem.F.args_tuple_add_2 _ _)
   (tuple_addW0 t b #[] ws.toArray n n2 dd lI sl iq (by simp)) ⟨ho,ho2,h1⟩
end
end HT
namespace Mi
open PySem L2 PySem.W PySem.Spec
section
variable {X:Cx}{Er:XK}{K:Frag}{mg:Ab}
def cN (X:Cx) (o:Operator) (op:Am):Prop:=∃r,ba X (binaryOp o) r/\d5 X.K X.mg r op
def bJ (X:Cx) (o:CmpOp) (op:Am):Prop:=∃r,ba X (compareOp o) r/\d5 X.K X.mg r op
def kE (X:Cx) (op:Am):Prop:=∃r,fI X r/\d5 X.K X.mg r op
def uL (X:Cx) (o:UnaryOp) (op:PV->Mo PV):Prop:=∃r,oX X (unaryOp o) r/\C0 X.K X.mg r op
variable {a b c e:Expr}{es:List Expr}{pos:Pos}{fa fb fc:Ai}{fs:Ah}
def yq {o:Operator}{op:Am}(h:cN X o op) (ha:ME X Er a fa) (hb:ME X Er b fb):ME X Er (.BinOp a o b pos) (zh op fa fb):=let ⟨_,h1,h2⟩:=h;Mz h1 h2 ha hb
def wB {o:CmpOp}{op:Am}(h:bJ X o op) (ha:ME X Er a fa) (hb:ME X Er b fb) (hk:behindInMarks o b=false:=by first|exact mU _|with_unfolding_all rfl):ME X Er (.Compare a [o] [b] pos) (zh op fa fb):=let ⟨_,h1,h2⟩:=h;MB h1 h2 ha hb hk
def yi {o:CmpOp}{op:Am}(h:bJ X o op) (ha:ME X Er a fa) (hb:ME X Er b fb) (hk:behindInMarks o b=false:=by first|exact mU _|with_unfolding_all rfl):MT X Er (.Compare a [o] [b] pos) (mB (zh op fa fb)):=let ⟨_,h1,h2⟩:=h;MD h1 h2 ha hb hk
def MP {o o':CmpOp}{op dX:Am}(h:bJ X o op) (h':bJ X o' dX) (ha:ME X Er a fa) (hb:ME X Er b fb) (hc:ME X Er c fc)
  (hk:lastMarks [o,o'] [b,c]=false:=by with_unfolding_all rfl):ME X Er (.Compare a [o,o'] [b,c] pos) (pM op dX fa fb fc):=let ⟨_,h1,h2⟩:=h;let ⟨_,h3,h4⟩:=h';MH h1 h2 h3 h4 ha hb hc hk
def zD {op:Am}(h:kE X op) (ha:ME X Er a fa) (hb:ME X Er b fb) (hs:fH b:=by exact λ_ _=>rfl):ME X Er (.Subscript a b pos) (zh op fa fb):=let ⟨_,h1,h2⟩:=h;MM h1 h2 ha hb hs
def MQ {o:UnaryOp}{op:PV->Mo PV}(h:uL X o op) (ha:ME X Er a fa):ME X Er (.UnaryOp o a pos) (yg op fa):=let ⟨_,h1,h2⟩:=h;MK h1 h2 ha
def Out.ifp {α:Type}{ρ:Ae}{H:Hp}{p:Prop} [Decidable p] {r:Res α}{good:List Addr->Hp->α->aa->Prop}(h:Out K mg ρ H (if p then r else .stuck) good Er):p/\Out K mg ρ H r good Er:=by
 split at h
 ·rename_i hp;exact ⟨hp,h⟩
 ·exact h.elim
def yl {α:Type}(st:aa) (n:Nat) (k:List PV->Res α):Res α:=match st[n]? with
 | some (.lst xs)=>k xs
 | _=>.stuck
def ja {α:Type}(st:aa) (n:Nat) (k:List Str->List PV->Res α):Res α:=match st[n]? with
 | some (.dic ks xs)=>k ks xs
 | _=>.stuck
def yV {α:Type}(st:aa) (n:Nat) (k:Str->List Str->List PV->Res α):Res α:=match st[n]? with
 | some (.ins c ks xs)=>k c ks xs
 | _=>.stuck
def jw {α:Type}{ρ:Ae}{H:Hp}{st:aa}{n:Nat}{k:List PV->Res α}{good:List Addr->Hp->α->aa->Prop}(h:Out K mg ρ H (yl st n k) good Er):∃xs,st[n]?=some (.lst xs)/\Out K mg ρ H (k xs) good Er:=by
 unfold yl at h
 split at h
 ·rename_i xs e;exact ⟨xs,e,h⟩
 ·exact h.elim
def MR {α:Type}{ρ:Ae}{H:Hp}{st:aa}{n:Nat}{k:List Str->List PV->Res α}{good:List Addr->Hp->α->aa->Prop}(h:Out K mg ρ H (ja st n k) good Er):∃ks xs,st[n]?=some (.dic ks xs)/\Out K mg ρ H (k ks xs) good Er:=by
 unfold ja at h
 split at h
 ·rename_i ks xs e;exact ⟨ks,xs,e,h⟩
 ·exact h.elim
def C6 {α:Type}{ρ:Ae}{H:Hp}{st:aa}{n:Nat}{k:Str->List Str->List PV->Res α}{good:List Addr->Hp->α->aa->Prop}(h:Out K mg ρ H (yV st n k) good Er):∃c ks xs,st[n]?=some (.ins c ks xs)/\Out K mg ρ H (k c ks xs) good Er:=by
 unfold yV at h
 split at h
 ·rename_i c ks xs e;exact ⟨c,ks,xs,e,h⟩
 ·exact h.elim
def opI (C:Int->Int->Bool) (g:Int->Int->Int):Am
 | .int i,.int j,st=>if C i j=true then .ok (.int (g i j)) st else .stuck
 | _,_,_=>.stuck
def iJ {C:Int->Int->Bool}{g:Int->Int->Int}{P:Int->Int->Prop}(hC:∀i j,C i j=true->P i j):d5 K mg (rI P λi j=>.int (g i j)) (opI C g):=by
 intro ρ H st x y v w Q E s rx ry h
 cases x with
 | int i =>
  cases y with
  | int j =>
   cases rx;cases ry
   obtain ⟨c,h⟩:=Out.ifp h
   exact ⟨i,j,rfl,rfl,hC i j c,h.now s _ rfl⟩
  | _=>exact h.elim
 | _=>exact h.elim
abbrev c0:Int->Int->Bool:=λ_ _=>true
def vW {g:Int->Int->V}{f:Value->Value->Sem Value}(h:ba X f (wP g)):ba X f (rI (λ_ _=>True) g):=λpins s U H x y v u Q I rx ry ⟨i,j,h1,h2,_,q⟩=>h pins s U H x y v u Q I rx ry ⟨i,j,h1,h2,q⟩
abbrev pN:=opI c0 λi j=>i-j
abbrev kG:Int->Int->Bool:=λi j=>(decide (-(2 ^ 64)<i)&&decide (i<2 ^ 64))||(decide (-(2 ^ 64)<j)&&decide (j<2 ^ 64))
abbrev C7:=opI kG λi j=>i*j
abbrev eh:Int->Int->Bool:=λi j=>decide (0<=j)&&decide (j<=1000000)&&decide (i.natAbs<2 ^ 64)
abbrev sr:=opI eh λi j=>i ^ j.toNat
abbrev C8:Int->Int->Bool:=λ_ j=>decide (j≠0)
def jA (i j:Int):Int:=if 0<j then i%j else i.fmod j
abbrev yS:=opI C8 jA
abbrev vX:Int->Int->Bool:=λ_ j=>decide (j≠0)&&decide (j.natAbs<2 ^ 200)
def jZ (i j:Int):Int:=if 0<j then i/j else i.fdiv j
abbrev wt:=opI vX jZ
theorem MU (i j:Int):jA i j=i.fmod j:=by
 unfold jA;split
 ·rename_i h;rw [Int.fmod_eq_emod_of_nonneg _ (by omega)]
 ·rfl
def MV (i j:Int):jZ i j=i.fdiv j:=by
 unfold jZ;split
 ·rename_i h;rw [Int.fdiv_eq_ediv_of_nonneg _ (by omega)]
 ·rfl
def zeE:cN X .Sub pN:=⟨_,vW ik,iJ λ_ _ _=>trivial⟩
def MY:cN X .Mult C7:=⟨_,JL,iJ λi j h=>by simpa [kG,mT] using h⟩
def zhy:cN X .Pow sr:=⟨_,JN,iJ λi j h=>by simp [eh] at h;exact ⟨h.1.1,h.1.2,h.2⟩⟩
def wC:cN X .Mod yS:=⟨_,JM,by
 have h:(λi j=>V.int (i.fmod j))=λi j=>V.int (jA i j):=by funext i j;rw [MU]
 rw [h];exact iJ λi j h=>by simpa [C8] using h⟩
theorem MZ {y:Int}(h:y.natAbs<2 ^ 200):y.natAbs.log2<9000:=by
 by_cases h0:y.natAbs=0
 ·rw [h0];decide
 ·have:=(Nat.log2_lt h0).mpr h
  omega
def M5:ba X (binaryOp .FloorDiv) (rI (λ_ j=>j≠0/\j.natAbs<2 ^ 200) λi j=>.int (i.fdiv j)):=L2.opI λ_ _ _ _ _ _ _ hc q=>PyProof.Rows.floordiv_int hc.1 q (.inl (PyProof.noPylong_of_log2 (MZ hc.2)))
def zb7:cN X .FloorDiv wt:=⟨_,M5,by
 have h:(λi j=>V.int (i.fdiv j))=λi j=>V.int (jZ i j):=by funext i j;rw [MV]
 rw [h];exact iJ λi j h=>by simpa [vX] using h⟩
def nL:PV->Mo PV
 | .int i,st=>.ok (.int (-i)) st
 | _,_=>.stuck
def M6:uL X .USub nL:=⟨_,JT,by
 intro ρ H st x v Q E s rx h
 cases x with
 | int i=>cases rx;exact ⟨i,rfl,Out.now (x:=PV.int (-i)) h s _ rfl⟩
 | _=>exact h.elim⟩
def yH:Am
 | .int i,.int j,st=>.ok (.int (i+j)) st
 | .str x,.str y,st=>if x.length+y.length<=lim then .ok (.str (x++y)) st else .stuck
 | .tup xs,.tup ys,st=>if xs.length+ys.length<=lim then .ok (.tup (xs++ys)) st else .stuck
 | .ref n,.ref m,st=>yl st n λxs=>yl st m λys=>if xs.length+ys.length<=lim then .ok (.ref st.length) (st++[.lst (xs++ys)]) else .stuck
 | _,_,_=>.stuck
def M_ (K:Frag):R2:=λx y H Q=>∃a b ys,x=.ref a/\y=.ref b/\a9 K H a []/\a9 K H b ys/\Q (.ref b) H
def Na:ba X (binaryOp .Add) (M_ X.K):=by
 intro pins s U H x y v u Q I rx ry h
 obtain ⟨a,b,ys,rfl,rfl,h1,h2,q⟩:=h
 cases rx;cases ry
 obtain ⟨i1,r1,p1,_⟩:=I.tuple h1
 obtain ⟨i2,r2,p2,_⟩:=I.tuple h2
 cases r1
 exact HT.cat_tup0 p1 p2 ⟨.ref b,H,I,rfl,q⟩
def jM:cN X .Add yH:=⟨_,ig.or (J2.or (Na.or (KW.or Lg))),by
 intro ρ H st x y v w Q E s rx ry h
 cases x with
 | int i =>
  cases y with
  | int j=>cases rx;cases ry;exact .inl ⟨i,j,rfl,rfl,Out.now (x:=PV.int (i+j)) h s _ rfl⟩
  | _=>exact h.elim
 | str i =>
  cases y with
  | str j =>
   cases rx;cases ry
   obtain ⟨c,h⟩:=Out.ifp h
   exact .inr (.inl ⟨i,j,rfl,rfl,yR c,h.now s _ rfl⟩)
  | _=>exact h.elim
 | tup xs =>
  cases y with
  | tup ys =>
   obtain ⟨p,vs,rfl,h1,h2⟩:=rx
   obtain ⟨q,ws,rfl,h3,h4⟩:=ry
   obtain ⟨c,h⟩:=Out.ifp h
   cases xs with
   | nil =>
    cases h2
    exact .inr (.inr (.inl ⟨p,q,ws,rfl,rfl,h1,h3,h.now s _ ⟨q,ws,rfl,h3,h4⟩⟩))
   | cons x0 nM =>
    refine .inr (.inr (.inr (.inl ⟨p,q,vs,ws,rfl,rfl,h1,h3,?_,?_,λe=>?_,λ_ l hl=>?_⟩)))
    ·obtain ⟨v0,r0,e0,_⟩:=h2;rw [e0];simp
    ·rw [<-h2.len,<-h4.len];exact yR c
    ·subst e
     have:ys=[]:=by have:=h4.len;simpa using this
     subst this
     exact h.now s _ ⟨p,vs,rfl,h1,by simpa using h2⟩
    ·exact h ρ _ (Ext.new hl) (s.new hl) _ (R.tup_of (h2.append h4) hl)
  | _=>exact h.elim
 | ref n =>
  cases y with
  | ref m =>
   obtain ⟨p,rfl,hp⟩:=rx
   obtain ⟨q,rfl,hq⟩:=ry
   obtain ⟨xs,e1,h⟩:=jw h
   obtain ⟨ys,e2,h⟩:=jw h
   obtain ⟨c,h⟩:=Out.ifp h
   obtain ⟨vs,h1,h2⟩:=s.addr e1 hp
   obtain ⟨ws,h3,h4⟩:=s.addr e2 hq
   exact .inr (.inr (.inr (.inr ⟨p,q,vs,ws,rfl,rfl,h1,h3,by rw [<-h2.len,<-h4.len];exact yR c,λl hl=>Out.newList h s (h2.append h4) hl⟩)))
  | _=>exact h.elim
 | _=>exact h.elim⟩
def su (g:Int->Int->Bool):Am
 | .int i,.int j,st=>.ok (.bl (g i j)) st
 | _,_,_=>.stuck
def C9 {g:Int->Int->Bool}:d5 K mg (wP λi j=>.bl (g i j)) (su g):=by
 intro ρ H st x y v w Q E s rx ry h
 cases x with
 | int i =>
  cases y with
  | int j=>cases rx;cases ry;exact ⟨i,j,rfl,rfl,Out.now (x:=PV.bl (g i j)) h s _ rfl⟩
  | _=>exact h.elim
 | _=>exact h.elim
abbrev j8:=su λi j=>decide (i<j)
abbrev kI:=su λi j=>decide (j<i)
def zaD:bJ X .Lt j8:=⟨_,JU,C9⟩
def zhA:bJ X .Gt kI:=⟨_,JV,C9⟩
def gd:PV->Bool
 | .non=>true
 | _=>false
def C_:Am
 | x,.non,st=>.ok (.bl (!gd x)) st
 | _,_,_=>.stuck
def Nb {ρ:Ae}{H:Hp}{x:PV}{v:V}(r:R K mg ρ H x v):decide (v=.non)=gd x:=by
 cases x with
 | non=>cases r;rfl
 | bl _=>cases r;rfl
 | int _=>cases r;rfl
 | str _=>cases r;rfl
 | ty _=>cases r;rfl
 | tup _=>obtain ⟨_,_,rfl,_⟩:=r;rfl
 | frl _=>obtain ⟨_,_,rfl,_⟩:=r;rfl
 | ref _=>obtain ⟨_,rfl,_⟩:=r;rfl
 | fn _=>obtain ⟨_,rfl,_⟩:=r;rfl
 | kd _ _=>obtain ⟨_,_,_,rfl,_⟩:=r;rfl
 | exo _ _ _=>obtain ⟨_,_,_,_,rfl,_⟩:=r;rfl
def Nc:bJ X .IsNot C_:=⟨_,JX,by
 intro ρ H st x y v w Q E s rx ry h
 cases y with
 | non=>cases ry;exact ⟨rfl,by rw [Nb rx];exact Out.now (x:=PV.bl (!gd x)) h s _ rfl⟩
 | _=>exact h.elim⟩
def vY {ρ:Ae}{H:Hp}{xs:An}{vs:List V}{i:Int}{x:PV}(r:Rs K mg ρ H xs vs) (h:cu xs i=some x):∃v,cu vs i=some v/\R K mg ρ H x v:=by
 unfold cu at h ⊢
 rw [<-r.len]
 cases hj:fG xs.length i with
 | none=>rw [hj] at h;cases h
 | some j =>
  rw [hj] at h
  obtain ⟨v,h1,h2⟩:=r.get (show xs[j]?=some x from h)
  exact ⟨v,h1,h2⟩
def bP:Option PV->Mo PV
 | some x,st=>.ok x st
 | none,_=>.stuck
def vZ:Am
 | .tup xs,.int i,st=>bP (cu xs i) st
 | .frl xs,.int i,st=>bP (cu xs i) st
 | .str z,.int i,st=>if z.length<=lim then bP ((cu z.cps.toList i).map λc=>.str ⟨#[c]⟩) st else .stuck
 | .ref n,.int i,st=>yl st n λxs=>bP (cu xs i) st
 | _,_,_=>.stuck
def kJ {ρ:Ae}{H:Hp}{o:Ao}{st:aa}{good}(h:Out K mg ρ H (bP o st) good Er):∃x,o=some x/\Out K mg ρ H (.ok x st) good Er:=by
 cases o with
 | some x=>exact ⟨x,rfl,h⟩
 | none=>exact h.elim
def Nd:kE X vZ:=⟨_,K3,by
 intro ρ H st x y v w Q E s rx ry h
 cases x with
 | tup xs =>
  cases y with
  | int i =>
   cases ry
   obtain ⟨p,vs,rfl,h1,h2⟩:=rx
   obtain ⟨x,e,h⟩:=kJ h
   obtain ⟨v,h3,h4⟩:=vY h2 e
   exact .inr (.inl ⟨p,vs,i,v,rfl,rfl,h1,h3,h.now s _ h4⟩)
  | _=>exact h.elim
 | frl xs =>
  cases y with
  | int i =>
   cases ry
   obtain ⟨p,vs,rfl,h1,h2⟩:=rx
   obtain ⟨x,e,h⟩:=kJ h
   obtain ⟨v,h3,h4⟩:=vY h2 e
   exact .inl ⟨p,vs,i,v,rfl,rfl,h1.sq,h3,h.now s _ h4⟩
  | _=>exact h.elim
 | str z =>
  cases y with
  | int i =>
   cases ry;cases rx
   obtain ⟨c,h⟩:=Out.ifp h
   obtain ⟨x,e,h⟩:=kJ h
   cases hc:cu z.cps.toList i with
   | none=>rw [hc] at e;cases e
   | some k =>
    rw [hc] at e
    cases e
    exact .inr (.inr ⟨z,i,k,rfl,rfl,yR c,hc,h.now s _ rfl⟩)
  | _=>exact h.elim
 | ref n =>
  cases y with
  | int i =>
   cases ry
   obtain ⟨p,rfl,hp⟩:=rx
   obtain ⟨xs,e1,h⟩:=jw h
   obtain ⟨vs,h1,h2⟩:=s.addr e1 hp
   obtain ⟨x,e,h⟩:=kJ h
   obtain ⟨v,h3,h4⟩:=vY h2 e
   exact .inl ⟨p,vs,i,v,rfl,rfl,a6.of h1,h3,h.now s _ h4⟩
  | _=>exact h.elim
 | _=>exact h.elim⟩
end
mutual
def plain:PV->Bool
 | .non=>true
 | .bl _=>true
 | .int _=>true
 | .str _=>true
 | .tup xs=>bE xs
 | _=>false
def bE:List PV->Bool
 | []=>true
 | x::xs=>plain x&&bE xs
end
mutual
def dep:PV->Nat
 | .tup xs=>cZ xs+1
 | _=>0
def cZ:List PV->Nat
 | []=>0
 | x::xs=>max (dep x) (cZ xs)
end
mutual
def bz:PV->PV->Bool
 | .non,.non=>true
 | .bl a,.bl b=>a==b
 | .bl a,.int b=>(if a then 1 else 0)==b
 | .int a,.bl b=>a==(if b then 1 else 0)
 | .int a,.int b=>a==b
 | .str a,.str b=>a==b
 | .tup xs,.tup ys=>eA xs ys
 | _,_=>false
def eA:List PV->List PV->Bool
 | [],[]=>true
 | x::xs,y::ys=>bz x y&&eA xs ys
 | _,_=>false
end
section
variable {X:Cx}{Er:XK}{K:Frag}{mg:Ab}{ρ:Ae}{pins:Ac}{U:L2.St}{H:Hp}{s:Shared}
mutual
theorem Dc (I:Inv X pins U H s):∀(x y:PV) {v:V},plain x=true->plain y=true->R X.K mg ρ H x v->R X.K mg ρ H y v->bz x y=true
 | .non,y,v,_,py,rx,ry=>by
  cases rx
  cases y with
  | non=>rfl
  | tup ys=>obtain ⟨_,_,e,_⟩:=ry;cases e
  | bl _=>cases ry
  | int _=>cases ry
  | str _=>cases ry
  | _=>cases py
 | .bl a,y,v,_,py,rx,ry=>by
  cases rx
  cases y with
  | bl b=>cases ry;simp [bz]
  | tup ys=>obtain ⟨_,_,e,_⟩:=ry;cases e
  | non=>cases ry
  | int _=>cases ry
  | str _=>cases ry
  | _=>cases py
 | .int a,y,v,_,py,rx,ry=>by
  cases rx
  cases y with
  | int b=>cases ry;simp [bz]
  | tup ys=>obtain ⟨_,_,e,_⟩:=ry;cases e
  | non=>cases ry
  | bl _=>cases ry
  | str _=>cases ry
  | _=>cases py
 | .str a,y,v,_,py,rx,ry=>by
  cases rx
  cases y with
  | str b=>cases ry;simp [bz]
  | tup ys=>obtain ⟨_,_,e,_⟩:=ry;cases e
  | non=>cases ry
  | bl _=>cases ry
  | int _=>cases ry
  | _=>cases py
 | .tup xs,y,v,px,py,rx,ry=>by
  obtain ⟨a,vs,rfl,h1,h2⟩:=rx
  cases y with
  | tup ys =>
   obtain ⟨b,ws,e,h3,h4⟩:=ry
   cases e
   have:=I.tuple_inj h1 h3
   subst this
   exact kK I xs ys px py h2 h4
  | non=>cases ry
  | bl _=>cases ry
  | int _=>cases ry
  | str _=>cases ry
  | _=>cases py
 | .ty _,_,_,px,_,_,_=>by cases px
 | .frl _,_,_,px,_,_,_=>by cases px
 | .ref _,_,_,px,_,_,_=>by cases px
 | .fn _,_,_,px,_,_,_=>by cases px
 | .kd _ _,_,_,px,_,_,_=>by cases px
 | .exo _ _ _,_,_,px,_,_,_=>by cases px
theorem kK (I:Inv X pins U H s):∀(xs ys:An) {vs:List V},bE xs=true->bE ys=true->Rs X.K mg ρ H xs vs->Rs X.K mg ρ H ys vs->eA xs ys=true
 | [],ys,vs,_,py,rx,ry=>by
  cases rx
  cases ys with
  | nil=>rfl
  | cons y ys=>obtain ⟨_,_,e,_⟩:=ry;cases e
 | x::xs,ys,vs,px,py,rx,ry=>by
  obtain ⟨v,r,rfl,h1,h2⟩:=rx
  cases ys with
  | nil=>cases ry
  | cons y ys =>
   obtain ⟨v',r',e,h3,h4⟩:=ry
   cases e
   simp only [bE,ia] at px py
   simp only [eA,ia]
   exact ⟨Dc I x y px.1 py.1 h1 h3,kK I xs ys px.2 py.2 h2 h4⟩
end
def fM (xs ys:An) (j:Nat):Bool:=match xs[j]?,ys[j]? with
 | some x,some y=>bz x y
 | _,_=>true
theorem Dd:∀(xs ys:An),((List.range (min xs.length ys.length)).all (fM xs ys)&&xs.length==ys.length)=eA xs ys
 | [],[]=>rfl
 | [],y::ys=>by simp [eA]
 | x::xs,[]=>by simp [eA]
 | x::xs,y::ys=>by
  have ih:=Dd xs ys
  have e1:min (x::xs).length (y::ys).length=min xs.length ys.length+1:=by simp only [j5];omega
  have e2:((x::xs).length==(y::ys).length)=(xs.length==ys.length):=by
   rw [Bool.eq_iff_iff];simp
  rw [e1,e2,List.range_succ_eq_map,List.all_cons,List.all_map]
  have e3:(fM (x::xs) (y::ys)∘Nat.succ)=fM xs ys:=by
   funext j
   simp [fM]
  rw [e3,Bool.and_assoc,ih]
  simp [eA,fM]
theorem v5:∀{xs:An}{i:Nat}{x:PV},xs[i]?=some x->dep x<=cZ xs
 | [],_,_,e=>by simp at e
 | y::xs,0,x,e=>by simp at e;subst e;simp only [cZ];omega
 | y::xs,i+1,x,e=>by
  simp at e
  have:=v5 e
  simp only [cZ];omega
theorem sv:∀{xs:An}{i:Nat}{x:PV},bE xs=true->xs[i]?=some x->plain x=true
 | [],_,_,_,e=>by simp at e
 | y::xs,0,x,p,e=>by simp at e;subst e;simp only [bE,ia] at p;exact p.1
 | y::xs,i+1,x,p,e=>by
  simp at e
  simp only [bE,ia] at p
  exact sv p.2 e
def sx (A:Around):A.in1.units=A.units+1:=rfl
theorem v7 (I:Inv X pins U H s):∀(n:Nat) (x y:PV) {v w:V}{u u':Value}(A:Around),dep x<=n->plain x=true->plain y=true->R X.K mg ρ H x v->R X.K mg ρ H y w->RelV v u->RelV w u'->A.units+n<cLine ->
  SeqAt.EqAt A s u u' (bz x y)/\SeqAt.RcAt A s u u' (bz x y)/\SeqAt.RcNeAt A s u u' (!bz x y):=by
 intro n
 induction n with
 | zero =>
  intro x y v w u u' A hd px py rx ry rv rw hu
  cases x with
  | tup xs=>simp only [dep] at hd;omega
  | non =>
   cases rx;cases rv
   cases y with
   | non=>cases ry;cases rw;exact ⟨.same _,.none_none,.none_none⟩
   | bl b=>cases ry;cases rw;exact ⟨.none_bool b,.none_bool b,.none_bool b⟩
   | int b=>cases ry;obtain ⟨t,rfl⟩:=rw;exact ⟨.none_int b t,.none_int b t,.none_int b t⟩
   | str b=>cases ry;obtain ⟨t,rfl⟩:=rw;exact ⟨.none_str b t,.none_str b t,.none_str b t⟩
   | tup ys =>
    obtain ⟨p,ws,rfl,h1,h2⟩:=ry
    cases rw
    obtain ⟨its,_,pl,_⟩:=I.tuple h1
    exact ⟨.none_tuple pl (by omega),.none_tuple pl (by omega),.none_tuple pl (by omega)⟩
   | _=>cases py
  | bl a =>
   cases rx;cases rv
   cases y with
   | non=>cases ry;cases rw;exact ⟨.bool_none a,.bool_none a,.bool_none a⟩
   | bl b=>cases ry;cases rw;exact ⟨.bool_bool a b,.bool_bool a b,.bool_bool a b⟩
   | int b=>cases ry;obtain ⟨t,rfl⟩:=rw;exact ⟨.bool_int a b t,.bool_int a b t,.bool_int a b t⟩
   | str b=>cases ry;obtain ⟨t,rfl⟩:=rw;exact ⟨.bool_str a b t,.bool_str a b t,.bool_str a b t⟩
   | tup ys =>
    obtain ⟨p,ws,rfl,h1,h2⟩:=ry
    cases rw
    obtain ⟨its,_,pl,_⟩:=I.tuple h1
    exact ⟨.bool_tuple a pl (by omega),.bool_tuple a pl (by omega),.bool_tuple a pl (by omega)⟩
   | _=>cases py
  | int a =>
   cases rx;obtain ⟨t0,rfl⟩:=rv
   cases y with
   | non=>cases ry;cases rw;exact ⟨.int_none a t0,.int_none a t0,.int_none a t0⟩
   | bl b=>cases ry;cases rw;exact ⟨.int_bool a t0 b,.int_bool a t0 b,.int_bool a t0 b⟩
   | int b=>cases ry;obtain ⟨t,rfl⟩:=rw;exact ⟨.int_int a t0 b t,.int_int a t0 b t,.int_int a t0 b t⟩
   | str b=>cases ry;obtain ⟨t,rfl⟩:=rw;exact ⟨.int_str a t0 b t,.int_str a t0 b t,.int_str a t0 b t⟩
   | tup ys =>
    obtain ⟨p,ws,rfl,h1,h2⟩:=ry
    cases rw
    obtain ⟨its,_,pl,_⟩:=I.tuple h1
    exact ⟨.int_tuple a t0 pl (by omega),.int_tuple a t0 pl (by omega),.int_tuple a t0 pl (by omega)⟩
   | _=>cases py
  | str a =>
   cases rx;obtain ⟨t0,rfl⟩:=rv
   cases y with
   | non=>cases ry;cases rw;exact ⟨.str_none a t0,.str_none a t0,.str_none a t0⟩
   | bl b=>cases ry;cases rw;exact ⟨.str_bool a t0 b,.str_bool a t0 b,.str_bool a t0 b⟩
   | int b=>cases ry;obtain ⟨t,rfl⟩:=rw;exact ⟨.str_int a t0 b t,.str_int a t0 b t,.str_int a t0 b t⟩
   | str b=>cases ry;obtain ⟨t,rfl⟩:=rw;exact ⟨.str_str a t0 b t,.str_str a t0 b t,.str_str a t0 b t⟩
   | tup ys =>
    obtain ⟨p,ws,rfl,h1,h2⟩:=ry
    cases rw
    obtain ⟨its,_,pl,_⟩:=I.tuple h1
    exact ⟨.str_tuple a t0 pl (by omega),.str_tuple a t0 pl (by omega),.str_tuple a t0 pl (by omega)⟩
   | _=>cases py
  | _=>cases px
 | succ n ih =>
  intro x y v w u u' A hd px py rx ry rv rw hu
  cases x with
  | tup xs =>
   obtain ⟨a,vs,rfl,h1,h2⟩:=id rx
   cases rv
   obtain ⟨its,r1,p1,_⟩:=I.tuple h1
   cases y with
   | non=>cases ry;cases rw;exact ⟨.tuple_none p1 (by omega),.tuple_none p1 (by omega),.tuple_none p1 (by omega)⟩
   | bl b=>cases ry;cases rw;exact ⟨.tuple_bool b p1 (by omega),.tuple_bool b p1 (by omega),.tuple_bool b p1 (by omega)⟩
   | int b=>cases ry;obtain ⟨t,rfl⟩:=rw;exact ⟨.tuple_int b t p1 (by omega),.tuple_int b t p1 (by omega),.tuple_int b t p1 (by omega)⟩
   | str b=>cases ry;obtain ⟨t,rfl⟩:=rw;exact ⟨.tuple_str b t p1 (by omega),.tuple_str b t p1 (by omega),.tuple_str b t p1 (by omega)⟩
   | tup ys =>
    obtain ⟨b,ws,rfl,h3,h4⟩:=id ry
    cases rw
    obtain ⟨aU,r2,p2,_⟩:=I.tuple h3
    have l1:=h2.len
    have l2:=h4.len
    have l3:=r1.length
    have l4:=r2.length
    have item:∀j (g1:j<its.toArray.size) (g2:j<aU.toArray.size),SeqAt.EqAt A.in1 s its.toArray[j] aU.toArray[j] (fM xs ys j):=λj g1 g2=>by
     have k1:j<xs.length:=by rw [l1,l3];simpa using g1
     have k2:j<ys.length:=by rw [l2,l4];simpa using g2
     obtain ⟨v1,e1,v8⟩:=h2.get (yo k1)
     obtain ⟨v2,e2,v9⟩:=h4.get (yo k2)
     obtain ⟨u1,f1,v_⟩:=r1.get e1
     obtain ⟨u2,f2,w_⟩:=r2.get e2
     have w1:its.toArray[j]=u1:=by
      obtain ⟨_,z⟩:=yv.mp f1
      simpa using z
     have w2:aU.toArray[j]=u2:=by
      obtain ⟨_,z⟩:=yv.mp f2
      simpa using z
     have ej:fM xs ys j=bz xs[j] ys[j]:=by
      unfold fM
      rw [yo k1,yo k2]
     rw [w1,w2,ej]
     have X0:=v5 (yo k1)
     simp only [dep] at hd
     exact (ih xs[j] ys[j] A.in1 (by omega) (sv px (yo k1)) (sv py (yo k2)) v8 v9 v_ w_ (by rw [sx];omega)).1
    have uM:((List.range (min its.toArray.size aU.toArray.size)).all (fM xs ys)&&its.toArray.size==aU.toArray.size)=bz (.tup xs) (.tup ys):=by
     have e:=Dd xs ys
     rw [l1,l2,l3,l4] at e
     simpa [bz] using e
    have rc:SeqAt.RcAt A s (.ref a) (.ref b) (bz (.tup xs) (.tup ys)):=by
     rw [<-uM]
     exact SeqAt.RcAt.tuples (show s.heap.IsTuple a its.toArray from p1) (show s.heap.IsTuple b aU.toArray from p2) (by omega) item
    refine ⟨?_,rc,?_⟩
    ·by_cases eZ:a=b
     ·subst eZ
      rw [Dc I (.tup xs) (.tup ys) px py rx ry]
      exact .same _
     ·exact .of_refs eZ rc
    ·rw [<-uM]
     exact SeqAt.RcNeAt.tuples (show s.heap.IsTuple a its.toArray from p1) (show s.heap.IsTuple b aU.toArray from p2) (by omega) item
   | _=>cases py
  | non=>exact ih _ y A (jj _) px py rx ry rv rw (by omega)
  | bl a=>exact ih _ y A (jj _) px py rx ry rv rw (by omega)
  | int a=>exact ih _ y A (jj _) px py rx ry rv rw (by omega)
  | str a=>exact ih _ y A (jj _) px py rx ry rv rw (by omega)
  | _=>cases px
def ya:Am:=λx y st=>if plain x=true/\plain y=true/\dep x<=150 then .ok (.bl (bz x y)) st else .stuck
def jN:Am:=λx y st=>if plain x=true/\plain y=true/\dep x<=150 then .ok (.bl (!bz x y)) st else .stuck
def De (K:Frag) (mg:Ab) (f:Bool->Bool):R2:=λv w H Q=>∃ρ x y,plain x=true/\plain y=true/\dep x<=150/\R K mg ρ H x v/\R K mg ρ H y w/\Q (.bl (f (bz x y))) H
theorem Nf (hu:X.A.units+200<cLine):ba X (compareOp .Eq) (De X.K X.mg id):=by
 intro pins s U H x y v u Q I rx ry h
 obtain ⟨ρ,a,b,pa,pb,hd,ra,rb,q⟩:=h
 exact PySem.EqBoolInt.of_rc (v7 I 150 a b X.A hd pa pb ra rb rx ry (by omega)).2.1 ⟨.bl _,H,I,rfl,q⟩
def Ng (hu:X.A.units+200<cLine):ba X (compareOp .NotEq) (De X.K X.mg not):=by
 intro pins s U H x y v u Q I rx ry h
 obtain ⟨ρ,a,b,pa,pb,hd,ra,rb,q⟩:=h
 exact PySem.EqBoolInt.of_rcne (v7 I 150 a b X.A hd pa pb ra rb rx ry (by omega)).2.2 ⟨.bl _,H,I,rfl,q⟩
def yL (hu:X.A.units+200<cLine):bJ X .Eq ya:=⟨_,Nf hu,fun ρ H st x y v w Q E s rx ry h=>by
 obtain ⟨⟨p1,p2,p3⟩,h⟩:=Out.ifp h
 exact ⟨ρ,x,y,p1,p2,p3,rx,ry,h.now s _ rfl⟩⟩
def zbu (hu:X.A.units+200<cLine):bJ X .NotEq jN:=⟨_,Ng hu,fun ρ H st x y v w Q E s rx ry h=>by
 obtain ⟨⟨p1,p2,p3⟩,h⟩:=Out.ifp h
 exact ⟨ρ,x,y,p1,p2,p3,rx,ry,h.now s _ rfl⟩⟩
end
section
variable {X:Cx}{Er:XK}{K:Frag}{mg:Ab}{a b c e:Expr}{es:List Expr}{pos:Pos}{fa fb fc:Ai}{fs:Ah}
def Nh (K:Frag) (mg:Ab) (Er:XK) (f:zd->Mo (Option Int)):TO:=λU H Q=>∃env st ρ,a8 K mg ρ H env U/\a7 K mg ρ H st/\Out K mg ρ H (f env st) (λ_ H' o _=>Q o H') Er
def MO (X:Cx) (Er:XK) (e:Option Expr) (f:zd->Mo (Option Int)):Prop:=PO X e (Nh X.K X.mg Er f)
def iK:zd->Mo (Option Int):=λ_ st=>.ok none st
def xb:PV->Mo (Option Int)
 | .int i,st=>.ok (some i) st
 | _,_=>.stuck
def dM (f:Ai):zd->Mo (Option Int):=λenv st=>(f env st).bind xb
def PO.weak {o:Option Expr}{t t':TO}(h:PO X o t) (w:∀U H Q,t' U H Q->t U H Q):PO X o t':=λpins s U H Q I q=>h pins s U H Q I (w U H Q q)
def zhF:MO X Er none iK:=PO.weak KL λU H Q ⟨env,st,ρ,re,rs,h⟩=>h.now rs
def zdj (h:ME X Er e fa):MO X Er (some e) (dM fa):=PO.weak (KN h) λU H Q ⟨env,st,ρ,re,rs,h⟩=>⟨env,st,ρ,re,rs,h.then λag H1 x ae e1 s1 h1 v rv=>by
 cases x with
 | int i=>cases rv;exact ⟨i,rfl,Out.now (x:=some i) h1 s1⟩
 | _=>exact h1.elim⟩
def dA (xs:An) (lo hi:Option Int):An:=(xs.drop (HT.sIx xs.length 0 lo)).take (HT.sIx xs.length xs.length hi-HT.sIx xs.length 0 lo)
def pO:PV->Option Int->Option Int->Mo PV
 | .tup xs,lo,hi,st=>.ok (.tup (dA xs lo hi)) st
 | .frl xs,lo,hi,st=>.ok (.ref st.length) (st++[.lst (dA xs lo hi)])
 | .ref n,lo,hi,st=>yl st n λxs=>.ok (.ref st.length) (st++[.lst (dA xs lo hi)])
 | .str z,lo,hi,st=>if z.length<=lim then .ok (.str (Txt.slice z lo hi)) st else .stuck
 | _,_,_,_=>.stuck
def Rs.cut {ρ:Ae}{H:Hp}{xs:An}{vs:List V}(r:Rs K mg ρ H xs vs) (lo hi:Option Int):Rs K mg ρ H (dA xs lo hi) (gj vs lo hi):=by
 unfold dA gj
 rw [r.len]
 exact (r.drop _).take _
def Ni (K:Frag):V->Option Int->Option Int->Hp->VK->Prop:=λx lo hi H Q=>∃a xs,x=.ref a/\a9 K H a xs/\(HT.sIx xs.length 0 lo=0/\HT.sIx xs.length xs.length hi=xs.length)/\Q (.ref a) H
def Nj:iw X (Ni X.K):=by
 intro pins s U H x v vl vu lo hi sl Q I rx hs pl pu h
 obtain ⟨a,xs,rfl,hx,hw,q⟩:=h
 cases rx
 obtain ⟨its,r,ht,hz⟩:=I.tuple hx
 have hlen:its.toArray.size=xs.length:=by rw [yQ];exact r.length.symm
 refine ⟨"tuple", _,PyProof.Rows.slot_tuple_getitem.lookup,ht.typeIs,?_⟩
 exact HT.getItem_tuple_all ht hs pl pu (by rw [hlen];exact hw) ⟨.ref a,H,I,rfl,q⟩ (by rw [hlen];exact hz)
def l9 (fa:Ai) (fl fu:zd->Mo (Option Int)):Ai:=λenv st=>(fa env st).bind λx ae=>(fl env ae).bind λl aA=>(fu env aA).bind λu a0=>pO x l u a0
def zeK {lo hi:Option Expr}{fl fu:zd->Mo (Option Int)}{p2:Pos}(ha:ME X Er a fa) (hl:MO X Er lo fl) (hu:MO X Er hi fu):ME X Er (.Subscript a (.Slice lo hi none p2) pos) (l9 fa fl fu) :=
 PE.weak (KQ (KS.or (Nj.or (K7.or Lu))) ha hl hu) λU H Q ⟨env,st,ρ,re,rs,h⟩=>⟨env,st,ρ,re,rs,h.then λag H1 x ae e1 s1 h1 v rv=>⟨env,ae,ag,re.ext e1,s1,h1.then λaq H2 l aA e2 s2 h2 =>
  ⟨env,aA,aq,(re.ext e1).ext e2,s2,h2.then λak H3 u a0 e3 s3 h3=>by
  have rv:=R.ext e3 x (R.ext e2 x rv)
  cases x with
  | tup xs =>
   obtain ⟨p,vs,rfl,k1,k2⟩:=rv
   by_cases hw:HT.sIx vs.length 0 l=0/\HT.sIx vs.length vs.length u=vs.length
   ·refine .inr (.inl ⟨p,vs,rfl,k1,hw,Out.now (x:=PV.tup (dA xs l u)) h3 s3 _ ⟨p,vs,rfl,k1,?_⟩⟩)
    have:dA xs l u=xs:=by
     unfold dA
     rw [k2.len,hw.1,hw.2]
     simp [<-k2.len]
    rw [this];exact k2
   ·exact .inl ⟨p,vs,rfl,k1,hw,λq hq=>h3 ak _ (Ext.new hq) (s3.new hq) _ (R.tup_of (k2.cut l u) hq)⟩
  | frl xs =>
   obtain ⟨p,vs,rfl,k1,k2⟩:=rv
   exact .inr (.inr (.inl ⟨p,vs,rfl,k1.sq,λq hq=>Out.newList (xs:=dA xs l u) h3 s3 (k2.cut l u) hq⟩))
  | ref n =>
   obtain ⟨p,rfl,hp⟩:=rv
   obtain ⟨xs,k0,h3⟩:=jw h3
   obtain ⟨vs,k1,k2⟩:=s3.addr k0 hp
   exact .inr (.inr (.inl ⟨p,vs,rfl,a6.of k1,λq hq=>Out.newList (xs:=dA xs l u) h3 s3 (k2.cut l u) hq⟩))
  | str z =>
   cases rv
   obtain ⟨k0,h3⟩:=Out.ifp h3
   exact .inr (.inr (.inr ⟨z,rfl,yR k0,h3.now s3 _ rfl⟩))
  | _=>exact h3.elim⟩⟩⟩
def xf (K:Frag) (mg:Ab) (r:List V->Hp->VK->Prop) (op:Al):Prop:=∀ρ H st xs vs (Q:VK) (E:XK),a7 K mg ρ H st->Rs K mg ρ H xs vs->Out K mg ρ H (op xs st) (gV K mg Q) E->r vs H Q
def c_ (X:Cx) (f:Value) (op:Al):Prop:=∃r,bY X f r/\xf X.K X.mg r op
def zq (op:Al) (fs:Ah):Ai:=λenv st=>(fs env st).bind op
def yT {x:Str} {id:String} {op:Al} {p:Pos} (h:c_ X (.builtin id) op) (hm:X.mg x=none) (hv:bootBuiltins x=some (.builtin id)) (ha:MA X Er (e::es) fs) (hg:Gl X x:=by rfl) (hn:x ≠ "__name__" := by decide) (cL:(x==("__debug__" : Str))=false:=by decide)
  (he:starEach (e::es) X.env=(false,eval e X.env)::starEach es X.env:=by rfl) (bu:(backTo pos (starEach es X.env)).any (·.1)=false:=by rfl):ME X Er (.Call (.Name x p) (e::es) [] pos) (zq op fs):=by
 obtain ⟨r,h1,h2⟩:=h
 exact PE.weak (Kv h1 hg hm hv ha hn cL he bu) λU H Q ⟨env,st,ρ,re,rs,h⟩=>⟨env,st,ρ,re,rs,h.then λag H1 xs ae e1 s1 k vs rv=>h2 ag H1 ae xs vs Q Er s1 rv k⟩
def je {x:Str} {T:String} {op:Al} {p:Pos} (h:c_ X (.type T) op) (hm:X.mg x=none) (hv:bootBuiltins x=some (.type T)) (ha:MA X Er (e::es) fs) (hg:Gl X x:=by rfl) (hn:x ≠ "__name__" := by decide) (cL:(x==("__debug__" : Str))=false:=by decide)
  (he:starEach (e::es) X.env=(false,eval e X.env)::starEach es X.env:=by rfl) (bu:(backTo pos (starEach es X.env)).any (·.1)=false:=by rfl):ME X Er (.Call (.Name x p) (e::es) [] pos) (zq op fs):=by
 obtain ⟨r,h1,h2⟩:=h
 exact PE.weak (Kw h1 hg hm hv ha hn cL he bu) λU H Q ⟨env,st,ρ,re,rs,h⟩=>⟨env,st,ρ,re,rs,h.then λag H1 xs ae e1 s1 k vs rv=>h2 ag H1 ae xs vs Q Er s1 rv k⟩
def wR {x:Str} {n:String} (hm:X.mg x=none) (hv:bootBuiltins x=some (.type n)) (hg:Gl X x:=by rfl) (hn:x ≠ "__name__" := by decide) (hd:(x==("__debug__" : Str))=false:=by decide):ME X Er (.Name x pos) (mC (.ty n)) :=
 nK (ID (v:=.ty n) hg hm hv rfl hn hd) λ_ _=>rfl
def Rs.one {ρ:Ae}{H:Hp}{x:PV}{vs:List V}(r:Rs K mg ρ H [x] vs):∃v,vs=[v]/\R K mg ρ H x v:=by
 obtain ⟨v,r',rfl,h,h'⟩:=r
 cases h'
 exact ⟨v,rfl,h⟩
def Rs.two {ρ:Ae}{H:Hp}{x y:PV}{vs:List V}(r:Rs K mg ρ H [x,y] vs):∃v w,vs=[v,w]/\R K mg ρ H x v/\R K mg ρ H y w:=by
 obtain ⟨v,r',rfl,h,h'⟩:=r
 obtain ⟨w,rfl,h2⟩:=Rs.one h'
 exact ⟨v,w,rfl,h,h2⟩
def pP:Al
 | [.tup xs],st=>.ok (.int xs.length) st
 | [.frl xs],st=>.ok (.int xs.length) st
 | [.str z],st=>if z.length<=lim then .ok (.int z.length) st else .stuck
 | [.ref n],st=>yl st n λxs=>.ok (.int xs.length) st
 | _,_=>.stuck
def Nk:c_ X (.builtin "len") pP:=⟨_,J5,fun ρ H st xs vs Q E s r h=>by
 match xs,r,h with
 | [.tup ys],r,h =>
  obtain ⟨v,rfl,p,ws,rfl,h1,h2⟩:=Rs.one r
  exact ⟨_,ws.length,rfl,.inr ⟨ws,h1,rfl⟩,by rw [<-h2.len];exact Out.now (x:=PV.int ys.length) h s _ rfl⟩
 | [.frl ys],r,h =>
  obtain ⟨v,rfl,p,ws,rfl,h1,h2⟩:=Rs.one r
  exact ⟨_,ws.length,rfl,.inl ⟨ws,h1.sq,rfl⟩,by rw [<-h2.len];exact Out.now (x:=PV.int ys.length) h s _ rfl⟩
 | [.str z],r,h =>
  obtain ⟨v,rfl,rfl⟩:=Rs.one r
  obtain ⟨c,h⟩:=Out.ifp h
  exact ⟨_,z.length,rfl,⟨yR c,rfl⟩,h.now s _ rfl⟩
 | [.ref n],r,h =>
  obtain ⟨v,rfl,p,rfl,hp⟩:=Rs.one r
  obtain ⟨ys,e,h⟩:=jw h
  obtain ⟨ws,h1,h2⟩:=s.addr e hp
  exact ⟨_,ws.length,rfl,.inl ⟨ws,a6.of h1,rfl⟩,by rw [<-h2.len];exact h.now s _ rfl⟩
 | [],r,h=>exact h.elim
 | [.non],r,h=>exact h.elim
 | [.bl _],r,h=>exact h.elim
 | [.int _],r,h=>exact h.elim
 | [.ty _],r,h=>exact h.elim
 | [.fn _],r,h=>exact h.elim
 | [.kd _ _],r,h=>exact h.elim
 | [.exo _ _ _],r,h=>exact h.elim
 | x::y::r',r,h=>cases x<;>exact h.elim⟩
def sy:Al
 | [.int i],st=>.ok (.int i) st
 | [.bl k],st=>.ok (.int (if k then 1 else 0)) st
 | _,_=>.stuck
def Df:c_ X (.type "int") sy:=⟨_,J3,fun ρ H st xs vs Q E s r h=>by
 match xs,r,h with
 | [.int i],r,h =>
  obtain ⟨v,rfl,rfl⟩:=Rs.one r
  exact .inl ⟨i,rfl,Out.now (x:=PV.int i) h s _ rfl⟩
 | [.bl k],r,h =>
  obtain ⟨v,rfl,rfl⟩:=Rs.one r
  exact .inr ⟨k,rfl,Out.now (x:=PV.int (if k then 1 else 0)) h s _ rfl⟩
 | [],r,h=>exact h.elim
 | [.non],r,h=>exact h.elim
 | [.str _],r,h=>exact h.elim
 | [.tup _],r,h=>exact h.elim
 | [.frl _],r,h=>exact h.elim
 | [.ref _],r,h=>exact h.elim
 | [.ty _],r,h=>exact h.elim
 | [.fn _],r,h=>exact h.elim
 | [.kd _ _],r,h=>exact h.elim
 | [.exo _ _ _],r,h=>exact h.elim
 | x::y::r',r,h=>cases x<;>exact h.elim⟩
def sC:Al
 | [.tup xs],st=>.ok (.ref st.length) (st++[.lst xs])
 | [.frl xs],st=>.ok (.ref st.length) (st++[.lst xs])
 | [.ref n],st=>yl st n λxs=>.ok (.ref st.length) (st++[.lst xs])
 | _,_=>.stuck
def Nl:c_ X (.type "list") sC:=⟨_,K9,fun ρ H st xs vs Q E s r h=>by
 match xs,r,h with
 | [.tup ys],r,h =>
  obtain ⟨v,rfl,p,ws,rfl,h1,h2⟩:=Rs.one r
  exact ⟨p,ws,rfl,.inr h1,λl hl=>Out.newList (xs:=ys) h s h2 hl⟩
 | [.frl ys],r,h =>
  obtain ⟨v,rfl,p,ws,rfl,h1,h2⟩:=Rs.one r
  exact ⟨p,ws,rfl,.inl h1.sq,λl hl=>Out.newList (xs:=ys) h s h2 hl⟩
 | [.ref n],r,h =>
  obtain ⟨v,rfl,p,rfl,hp⟩:=Rs.one r
  obtain ⟨ys,e,h⟩:=jw h
  obtain ⟨ws,h1,h2⟩:=s.addr e hp
  exact ⟨p,ws,rfl,.inl (a6.of h1),λl hl=>Out.newList (xs:=ys) h s h2 hl⟩
 | [],r,h=>exact h.elim
 | [.non],r,h=>exact h.elim
 | [.bl _],r,h=>exact h.elim
 | [.int _],r,h=>exact h.elim
 | [.str _],r,h=>exact h.elim
 | [.ty _],r,h=>exact h.elim
 | [.fn _],r,h=>exact h.elim
 | [.kd _ _],r,h=>exact h.elim
 | [.exo _ _ _],r,h=>exact h.elim
 | x::y::r',r,h=>cases x<;>exact h.elim⟩
def yW:Al
 | [.tup xs],st=>.ok (.tup xs) st
 | [.frl xs],st=>.ok (.tup xs) st
 | [.ref n],st=>yl st n λxs=>.ok (.tup xs) st
 | _,_=>.stuck
def jB:c_ X (.type "tuple") yW:=⟨_,K_,fun ρ H st xs vs Q E s r h=>by
 match xs,r,h with
 | [.tup ys],r,h =>
  obtain ⟨v,rfl,p,ws,rfl,h1,h2⟩:=Rs.one r
  exact ⟨p,ws,rfl,.inr ⟨h1,Out.now (x:=PV.tup ys) h s _ ⟨p,ws,rfl,h1,h2⟩⟩⟩
 | [.frl ys],r,h =>
  obtain ⟨v,rfl,p,ws,rfl,h1,h2⟩:=Rs.one r
  exact ⟨p,ws,rfl,.inl ⟨h1.sq,λl hl=>h ρ _ (Ext.new hl) (s.new hl) _ (R.tup_of h2 hl)⟩⟩
 | [.ref n],r,h =>
  obtain ⟨v,rfl,p,rfl,hp⟩:=Rs.one r
  obtain ⟨ys,e,h⟩:=jw h
  obtain ⟨ws,h1,h2⟩:=s.addr e hp
  exact ⟨p,ws,rfl,.inl ⟨a6.of h1,λl hl=>h ρ _ (Ext.new hl) (s.new hl) _ (R.tup_of h2 hl)⟩⟩
 | [],r,h=>exact h.elim
 | [.non],r,h=>exact h.elim
 | [.bl _],r,h=>exact h.elim
 | [.int _],r,h=>exact h.elim
 | [.str _],r,h=>exact h.elim
 | [.ty _],r,h=>exact h.elim
 | [.fn _],r,h=>exact h.elim
 | [.kd _ _],r,h=>exact h.elim
 | [.exo _ _ _],r,h=>exact h.elim
 | x::y::r',r,h=>cases x<;>exact h.elim⟩
def gZ (T n:String):Option Bool :=
 if T = "int" then (if n = "int" then some true else if n = "bool" \/ n = "str" \/ n = "tuple" \/ n = "dict" \/ n = "list" then some false else none)
 else if T = "bool" then (if n = "int" \/ n = "bool" then some true else if n = "str" \/ n = "tuple" \/ n = "dict" \/ n = "list" then some false else none)
 else if T = "str" then (if n = "str" then some true else if n = "int" \/ n = "bool" \/ n = "tuple" \/ n = "dict" \/ n = "list" then some false else none)
 else if T = "tuple" then (if n = "tuple" then some true else if n = "int" \/ n = "bool" \/ n = "str" \/ n = "dict" \/ n = "list" then some false else none)
 else if T = "list" then (if n = "list" then some true else if n = "int" \/ n = "bool" \/ n = "str" \/ n = "dict" \/ n = "tuple" then some false else none)
 else if T = "dict" then (if n = "dict" then some true else if n = "int" \/ n = "bool" \/ n = "str" \/ n = "list" \/ n = "tuple" then some false else none)
 else if T = "NoneType" then (if n = "int" \/ n = "bool" \/ n = "str" \/ n = "list" \/ n = "tuple" \/ n = "dict" then some false else none)
 else none
def Nm (K:Frag) {T n:String}{b:Bool}(h:gZ T n=some b):PySem.W.kitOne K (.type T) (.type n)=some b:=by
 unfold gZ at h
 split at h
 ·rename_i e;subst e
  split at h
  ·rename_i e;subst e;cases h;first|rfl|kernel_rfl
  ·split at h
   ·rename_i e;cases h;rcases e with e|e|e|e|e<;>subst e<;>first|rfl|kernel_rfl
   ·cases h
 ·split at h
  ·rename_i e;subst e
   split at h
   ·rename_i e;cases h;rcases e with e|e<;>subst e<;>first|rfl|kernel_rfl
   ·split at h
    ·rename_i e;cases h;rcases e with e|e|e|e<;>subst e<;>first|rfl|kernel_rfl
    ·cases h
  ·split at h
   ·rename_i e;subst e
    split at h
    ·rename_i e;subst e;cases h;first|rfl|kernel_rfl
    ·split at h
     ·rename_i e;cases h;rcases e with e|e|e|e|e<;>subst e<;>first|rfl|kernel_rfl
     ·cases h
   ·split at h
    ·rename_i e;subst e
     split at h
     ·rename_i e;subst e;cases h;first|rfl|kernel_rfl
     ·split at h
      ·rename_i e;cases h;rcases e with e|e|e|e|e<;>subst e<;>first|rfl|kernel_rfl
      ·cases h
    ·split at h
     ·rename_i e;subst e
      split at h
      ·rename_i e;subst e;cases h;first|rfl|kernel_rfl
      ·split at h
       ·rename_i e;cases h;rcases e with e|e|e|e|e<;>subst e<;>first|rfl|kernel_rfl
       ·cases h
     ·split at h
      ·rename_i e;subst e
       split at h
       ·rename_i e;subst e;cases h;first|rfl|kernel_rfl
       ·split at h
        ·rename_i e;cases h;rcases e with e|e|e|e|e<;>subst e<;>first|rfl|kernel_rfl
        ·cases h
      ·split at h
       ·rename_i e;subst e
        split at h
        ·rename_i e;cases h;rcases e with e|e|e|e|e|e<;>subst e<;>first|rfl|kernel_rfl
        ·cases h
       ·cases h
end
def g0 (K:Frag) (mg:Ab) (m:Al):Sp:=λvs H Q E=>∃xs st ρ,Rs K mg ρ H xs vs/\a7 K mg ρ H st/\Out K mg ρ H (m xs st) (gV K mg Q) E
section
variable (P:Program) (w:World) (K:Frag) (mg:Ab) (base:Heap)
def bg (x:Str) (k:Nat) (m:Al):Prop:=∃f fd ps,mg x=some (.ref f)/\keepIn K (.ref f)=true/\Binds K fd ps []/\br P w K mg base (cj P w) k f fd ps (g0 K mg m)
def cC (c name:Str) (k:Nat) (m:Al):Prop:=∃C f fd ps,mg c=some (.ref C)/\fw K C/\Meth K C name f/\Binds K fd ps []/\br P w K mg base (cj P w) k f fd ps (g0 K mg m)
def g9 (c:Str) (k:Nat) (m:Al):Prop:=∃C f fd ps,mg c=some (.ref C)/\Mk K C f/\Binds K fd ps []/\br P w K mg base (cj P w) k f fd ps (g0 K mg m)
def Nn (c fld:Str):Prop:=∃C f fd,mg c=some (.ref C)/\gF K C f/\br P w K mg base (cj P w) 1 f fd ["self", fld] (LW C fld)/\Binds K fd ["self", fld] []
end
section
variable {X:Cx}{Er:XK}{K:Frag}{mg:Ab}{a b c e o:Expr}{es:List Expr}{pos p apos:Pos}{fa fb fc fo:Ai}{fs:Ah}{k:Nat}{x:Str}{m:Al}
def zO (C:bg X.prog X.w X.K X.mg X.base x k m) (hr:aY k X.A) (ht:j7 X Er) (ha:MA X Er (e::es) fs) (hg:Gl X x:=by rfl) (cL:(x==("__debug__" : Str))=false:=by decide)
  (he:starEach (e::es) X.env=(false,eval e X.env)::starEach es X.env:=by rfl) (bu:(backTo pos (starEach es X.env)).any (·.1)=false:=by rfl):ME X Er (.Call (.Name x p) (e::es) [] pos) (zq m fs):=by
 obtain ⟨f,fd,ps,hm,hk,hb,F⟩:=C
 exact PE.weak (Ks F hr hg hm hk hb .nil (nG ht) ha cL he bu) λU H Q ⟨env,st,ρ,re,rs,h⟩=>⟨env,st,ρ,re,rs,h.then λag H1 xs ae e1 s1 k vs rv=>by
  show g0 X.K X.mg m (vs++[]) H1 Q Er
  rw [List.append_nil]
  exact ⟨xs,ae,ag,rv,s1,k⟩⟩
def xg (tab:Str->Option (Al)) (ff:Ai) (fs:Ah):Ai:=λenv st=>(ff env st).bind λf ae=>match f with
 | .fn x=>match tab x with
  | some m=>(fs env ae).bind m
  | none=>.stuck
 | _=>.stuck
def Np {tab:Str->Option (Al)}{ff:Ai}(ht:∀y m,tab y=some m->bg X.prog X.w X.K X.mg X.base y k m) (hf:ME X Er (.Name x p) ff) (hr:aY k X.A) (hT:j7 X Er) (ha:MA X Er (e::es) fs)
  (he:starEach (e::es) X.env=(false,eval e X.env)::starEach es X.env:=by rfl) (bu:(backTo pos (starEach es X.env)).any (·.1)=false:=by rfl):ME X Er (.Call (.Name x p) (e::es) [] pos) (xg tab ff fs) :=
 PE.weak (L4 (CX:=cj X.prog X.w) hf hr (nG hT) ha he bu) λU H Q ⟨env,st,ρ,re,rs,h⟩=>⟨env,st,ρ,re,rs,h.then λag H1 f ae e1 s1 h1 v rv=>by
  cases f with
  | fn y =>
   cases hy:tab y with
   | none=>simp only [hy] at h1;exact h1.elim
   | some m =>
    simp only [hy] at h1
    obtain ⟨f,rfl,hm⟩:=rv
    obtain ⟨f',fd,ps,hm',hk,hb,F⟩:=ht y m hy
    rw [hm] at hm'
    cases hm'
    exact ⟨f,_,rfl,⟨fd,ps,F,hk,hb⟩,env,ae,ag,re.ext e1,s1,Out.then h1 λaq H2 xs aA e2 s2 h2 vs vV=>⟨xs,aA,aq,vV,s2,h2⟩⟩
  | _=>exact h1.elim⟩
theorem nO {ρ:Ae}{H:Hp}{f:Str}:∀{ks:Ad}{xs:An}{vs:List V}{x:PV},Rs K mg ρ H xs vs->(ks.zip xs).lookup f=some x->∃v,(ks.zip vs).lookup f=some v/\R K mg ρ H x v
 | [],_,_,_,_,h=>by simp at h
 | k::ks,[],_,_,_,h=>by simp at h
 | k::ks,y::xs,_,x,r,h=>by
  obtain ⟨v,r',rfl,h1,h2⟩:=r
  simp only [List.zip_cons_cons,yO] at h ⊢
  split at h
  ·cases h;exact ⟨v,rfl,h1⟩
  ·exact nO h2 h
theorem pQ {f:Str}{β:Type}:∀{ks:Ad}{vs:List β},f∉ks->(ks.zip vs).lookup f=none
 | [],_,_=>by simp
 | k::ks,[],_=>by simp
 | k::ks,v::vs,h=>by
  simp only [yF,not_or] at h
  simp only [List.zip_cons_cons,yO]
  have:(f==k)=false:=by simpa using h.1
  rw [this]
  exact pQ h.2
def Dg (X:Cx) (name:Str) (k:Nat) (E:XK) (ta:TE) (t:TA):TE:=λU H Q=>ta U H λx H1=>∃a C dx fs f fd ps sp,x=.ref a/\H1 a=some (.ins C dx fs)/\fs.lookup name=none/\fw X.K C/\Meth X.K C name f/\Binds X.K fd ps []/\br X.prog X.w X.K X.mg X.base (cj X.prog X.w) k f fd ps sp /\
 t U H1 λvs H2=>sp (x::vs) H2 Q E
def Nq {pl:Sem Bool}{name:Str}{ta:TE}{t:TA}{E:XK}(he:PE X o ta) (hr:aY k X.A) (hx:Passes (cj X.prog X.w) X E) (ha:PA X (e::es) t)
  (bH:starEach (e::es) X.env=(false,eval e X.env)::starEach es X.env:=by rfl) (bu:(backTo pos (starEach es X.env)).any (·.1)=false:=by rfl)
  (ht:eval (.Call (.Attribute o name apos) (e::es) [] pos) X.env=(do
   let ov <-eval o X.env
   standAt apos.atName
   let (f,first) <-holding [ov] (getMethod ov name pl)
   callWith pos f first (backTo pos (starEach (e::es) X.env)) (backToKw pos (keywordEach [] X.env))):=by rfl) :
  PE X (.Call (.Attribute o name apos) (e::es) [] pos) (Dg X name k E ta t):=by
 intro pins s U H Q I h
 refine PySem.W.methodCall_KW (pl:=pl) (aV (he pins s U H _ I h) λu s1 ⟨x,H1,I1,rx,a,C,dx,fs,f,fd,ps,sp,ex,ea,l,c,hm,hb,F,q⟩=>?_) ht
 subst ex
 obtain rfl:u=Value.ref a:=rx
 refine u_ I1 ea c hm l ?_
 refine PySem.W.callWith_K (first:=[.ref a]) (h₀:=X.base) I.ok.mod.kin hm.kp (aV (ha pos pins s1 U H1 _ I1 q) λus s2 ⟨vs,H2,I2,r,q2⟩=>⟨I2.kIn,?_⟩) bH bu
 exact rO (us:=.ref a::us) (vs:=.ref a::vs) F hr hb .nil hx I2 (.cons rfl r) (by rw [List.append_nil];exact q2)
def Nr {pl:Sem Bool}{name:Str}{ta:TE}{E:XK}(he:PE X o ta) (hr:aY k X.A) (hx:Passes (cj X.prog X.w) X E)
  (ht:eval (.Call (.Attribute o name apos) [] [] pos) X.env=(do
   let ov <-eval o X.env
   standAt apos.atName
   let (f,first) <-holding [ov] (getMethod ov name pl)
   callWith pos f first (backTo pos (starEach [] X.env)) (backToKw pos (keywordEach [] X.env))):=by rfl) :
  PE X (.Call (.Attribute o name apos) [] [] pos) (Dg X name k E ta BO):=by
 intro pins s U H Q I h
 refine PySem.W.methodCall_KW (pl:=pl) (aV (he pins s U H _ I h) λu s1 ⟨x,H1,I1,rx,a,C,dx,fs,f,fd,ps,sp,ex,ea,l,c,hm,hb,F,q⟩=>?_) ht
 subst ex
 obtain rfl:u=Value.ref a:=rx
 refine u_ I1 ea c hm l ?_
 exact PySem.W.callWith_K0 (first:=[.ref a]) I1.kIn hm.kp (rO (us:=[.ref a]) (vs:=[.ref a]) F hr hb .nil hx I1 (.cons rfl .nil) (by rw [List.append_nil];exact q))
def iL (name:Str) (tab:Str->Option (Al)) (o:PV) (st:aa) (k:Nat->(Al)->Res PV):Res PV:=match o with
 | .ref n=>yV st n λc ks _=>if name∈ks then .stuck else match tab c with
  | some m=>k n m
  | none=>.stuck
 | _=>.stuck
def y3 (name:Str) (tab:Str->Option (Al)) (fo:Ai) (fs:Ah):Ai:=λenv st=>(fo env st).bind λo ae=>iL name tab o ae λn m=>(fs env ae).bind λys aA=>m (.ref n::ys) aA
def xh {name:Str}{tab:Str->Option (Al)}{o:PV}{st:aa}{kk:Nat->(Al)->Res PV}{ρ:Ae}{H:Hp}{good}(h:Out K mg ρ H (iL name tab o st kk) good Er) :
  ∃n c ks xs m,o=.ref n/\st[n]?=some (.ins c ks xs)/\name∉ks/\tab c=some m/\Out K mg ρ H (kk n m) good Er:=by
 cases o with
 | ref n =>
  obtain ⟨c,ks,xs,e,h⟩:=C6 h
  split at h
  ·exact h.elim
  ·rename_i hn
   cases hc:tab c with
   | none=>rw [hc] at h;exact h.elim
   | some m=>rw [hc] at h;exact ⟨n,c,ks,xs,m,rfl,e,hn,hc,h⟩
 | _=>exact h.elim
def wS {pl:Sem Bool}{name:Str}{tab:Str->Option (Al)}(hT:∀c m,tab c=some m->cC X.prog X.w X.K X.mg X.base c name k m) (ho:ME X Er o fo) (hr:aY k X.A) (ht:j7 X Er) (ha:MA X Er (e::es) fs)
  (bH:starEach (e::es) X.env=(false,eval e X.env)::starEach es X.env:=by rfl) (bu:(backTo pos (starEach es X.env)).any (·.1)=false:=by rfl)
  (pR:eval (.Call (.Attribute o name apos) (e::es) [] pos) X.env=(do
   let ov <-eval o X.env
   standAt apos.atName
   let (f,first) <-holding [ov] (getMethod ov name pl)
   callWith pos f first (backTo pos (starEach (e::es) X.env)) (backToKw pos (keywordEach [] X.env))):=by rfl) :
  ME X Er (.Call (.Attribute o name apos) (e::es) [] pos) (y3 name tab fo fs) :=
 PE.weak (Nq (pl:=pl) ho hr (nG ht) ha bH bu pR) λU H Q ⟨env,st,ρ,re,rs,h⟩=>⟨env,st,ρ,re,rs,h.then λag H1 x ae e1 s1 h1 v rv=>by
  obtain ⟨n,c,ks,xs,m,rfl,hn,hk,hc,h1⟩:=xh h1
  obtain ⟨C,f,fd,ps,hC,cl,hm,hb,F⟩:=hT c m hc
  obtain ⟨p,rfl,hp⟩:=rv
  obtain ⟨C',dx,vs,hC',hH,hR,hl⟩:=s1.addr hn hp
  rw [hC] at hC'
  cases hC'
  exact ⟨p,C,dx,_,f,fd,ps,_,rfl,hH,pQ hk,cl,hm,hb,F,env,ae,ag,re.ext e1,s1,Out.then h1 λaq H2 ys aA e2 s2 h2 ws rws=>⟨.ref n::ys,aA,aq,⟨_,_,rfl,⟨p,rfl,e2.get hp⟩,rws⟩,s2,h2⟩⟩⟩
def Nt {pl:Sem Bool}{name:Str}{tab:Str->Option (Al)}(hT:∀c m,tab c=some m->cC X.prog X.w X.K X.mg X.base c name k m) (ho:ME X Er o fo) (hr:aY k X.A) (ht:j7 X Er)
  (pR:eval (.Call (.Attribute o name apos) [] [] pos) X.env=(do
   let ov <-eval o X.env
   standAt apos.atName
   let (f,first) <-holding [ov] (getMethod ov name pl)
   callWith pos f first (backTo pos (starEach [] X.env)) (backToKw pos (keywordEach [] X.env))):=by rfl) :
  ME X Er (.Call (.Attribute o name apos) [] [] pos) (y3 name tab fo zk) :=
 PE.weak (Nr (pl:=pl) ho hr (nG ht) pR) λU H Q ⟨env,st,ρ,re,rs,h⟩=>⟨env,st,ρ,re,rs,h.then λag H1 x ae e1 s1 h1 v rv=>by
  obtain ⟨n,c,ks,xs,m,rfl,hn,hk,hc,h1⟩:=xh h1
  obtain ⟨C,f,fd,ps,hC,cl,hm,hb,F⟩:=hT c m hc
  obtain ⟨p,rfl,hp⟩:=rv
  obtain ⟨C',dx,vs,hC',hH,hR,hl⟩:=s1.addr hn hp
  rw [hC] at hC'
  cases hC'
  exact ⟨p,C,dx,_,f,fd,ps,_,rfl,hH,pQ hk,cl,hm,hb,F,⟨[.ref n],ae,ag,⟨_,_,rfl,⟨p,rfl,hp⟩,rfl⟩,s1,h1⟩⟩⟩
def bI (c:Str) (m:Al) (ys:An):Mo PV:=λst=>(m (.ref st.length::ys) (st++[.ins c [] []])).bind λr aA=>if gd r=true then .ok (.ref st.length) aA else .stuck
def Nu {x:PV}(h:gd x=true):x=.non:=by cases x<;>first|rfl|cases h
def Dh {cn:Str}{C f:Addr}{ρ:Ae}{H:Hp}{st:aa}{ys:An}{vs:List V}{Q:VK}(hC:mg cn=some (.ref C)) (s:a7 K mg ρ H st) (r:Rs K mg ρ H ys vs) (h:Out K mg ρ H (bI cn m ys st) (gV K mg Q) Er) :
  ∀x dx,H x=none->H dx=none->dx≠x->g0 K mg m (.ref x::vs) (upd (upd H dx (.own x)) x (.ins C dx [])) (λv H2=>v=.non/\Q (.ref x) H2) Er:=λx dx hx nP ne=>by
 have sD:upd H dx (.own x) x=none:=by rw [yc (yC ne)];exact hx
 have s1:=s.new (o:=.own x) nP
 have e1:Ext ρ H ρ (upd H dx (.own x)):=Ext.new nP
 have e2:Ext ρ H (ρ++[x]) (upd (upd H dx (.own x)) x (.ins C dx [])):=e1.trans (Ext.push sD)
 have s2:a7 K mg (ρ++[x]) (upd (upd H dx (.own x)) x (.ins C dx [])) (st++[.ins cn [] []]):=s1.push sD ⟨C,dx,[],hC,y0,rfl,rfl⟩
 have gx:(ρ++[x])[st.length]?=some x:=by rw [<-s.len];simp
 refine ⟨.ref st.length::ys,_,ρ++[x],⟨_,_,rfl,⟨x,rfl,gx⟩,Rs.ext e2 ys r⟩,s2,Out.then (Out.ext h e2) λak H3 r3 a0 e3 s3 h3 v rv=>?_⟩
 obtain ⟨hn,h3⟩:=Out.ifp h3
 obtain rfl:=Nu hn
 exact ⟨rv,h3.now s3 _ ⟨x,rfl,e3.get gx⟩⟩
def fN {cn:Str} (C:g9 X.prog X.w X.K X.mg X.base cn k m) (hr:aY (k+1) X.A) (ht:j7 X Er) (ha:MA X Er (e::es) fs) (hg:Gl X cn:=by rfl) (cL:(cn==("__debug__" : Str))=false:=by decide)
  (he:starEach (e::es) X.env=(false,eval e X.env)::starEach es X.env:=by rfl) (bu:(backTo pos (starEach es X.env)).any (·.1)=false:=by rfl):ME X Er (.Call (.Name cn p) (e::es) [] pos) (zq (bI cn m) fs):=by
 obtain ⟨C,f,fd,ps,hm,M,hb,F⟩:=C
 exact PE.weak (Kt M F hr hg hm hb .nil (nG ht) ha cL he bu) λU H Q ⟨env,st,ρ,re,rs,h⟩=>⟨env,st,ρ,re,rs,h.then λag H1 xs ae e1 s1 k vs rv x dx hx nP ne=>by
  rw [List.append_nil]
  exact Dh (f:=f) hm s1 rv k x dx hx nP ne⟩
def aS (f:Str) (ins exc:Str->Bool):PV->Mo PV
 | .ref n,st=>yV st n λc ks xs=>if ins c=true then bP ((ks.zip xs).lookup f) st else .stuck
 | .exo c ks xs,st=>if exc c=true then bP ((ks.zip xs).lookup f) st else .stuck
 | _,_=>.stuck
structure FldF (K:Frag) (mg:Ab) (f:Str) (ins exc:Str->Bool):Prop where
 i:∀c,ins c=true->∃C,mg c=some (.ref C)/\fw K C/\dh K C f
 x:∀c,exc c=true->∃C,mg c=some (.ref C)/\gH K C/\hasDictIn K C=true/\findIn K (.ref C) f=some none
def Nv (K:Frag) (ta:TE) (f:Str):TE:=λU H Q=>ta U H λx H1=>(∃a C dx fs v,x=.ref a/\H1 a=some (.ins C dx fs)/\fw K C/\dh K C f/\fs.lookup f=some v/\Q v H1) \/
 ∃a C d fs v,x=.ref a/\H1 a=some (gG C (some d) a)/\H1 d=some (.xd fs)/\gH K C/\hasDictIn K C=true/\findIn K (.ref C) f=some none/\fs.lookup f=some v/\Q v H1
def Nw {f:Str}{ta:TE}(he:PE X e ta) (hb:attributeBase e f X.env (eval e X.env)=eval e X.env):PE X (.Attribute e f pos) (Nv X.K ta f):=by
 intro pins s U H Q I h
 refine Ke hb (aV (he pins s U H _ I h) λu s1 ⟨x,H1,I1,rx,h1⟩=>?_)
 rcases h1 with ⟨a,C,dx,fs,v,ex,ea,c,n,l,q⟩|⟨a,C,dx,fs,v,ex,ea,ed,g,hh,no,l,q⟩
 ·subst ex
  obtain rfl:u=Value.ref a:=rx
  exact Kc I1 ea c n l λu' s2 I2 ru=>⟨v,H1,I2,ru,q⟩
 ·subst ex
  obtain rfl:u=Value.ref a:=rx
  exact Mc I1 ea ed g hh no l λu' s2 I2 ru=>⟨v,H1,I2,ru,q⟩
def y7 {f:Str}{ins exc:Str->Bool}(F:FldF X.K X.mg f ins exc) (he:ME X Er e fa) (hb:attributeBase e f X.env (eval e X.env)=eval e X.env:=by rfl):ME X Er (.Attribute e f pos) (yg (aS f ins exc) fa) :=
 PE.weak (Nw he hb) λU H Q ⟨env,st,ρ,re,rs,h⟩=>⟨env,st,ρ,re,rs,h.then λag H1 x ae e1 s1 h1 v rv=>by
  cases x with
  | ref n =>
   obtain ⟨c,ks,xs,hn,h1⟩:=C6 h1
   obtain ⟨hc,h1⟩:=Out.ifp h1
   obtain ⟨y,hy,h1⟩:=kJ h1
   obtain ⟨p,rfl,hp⟩:=rv
   obtain ⟨C',dx,vs,hC',hH,hR,hl⟩:=s1.addr hn hp
   obtain ⟨C,hC,cl,na⟩:=F.i c hc
   rw [hC] at hC'
   cases hC'
   obtain ⟨v,hv,rv⟩:=nO hR hy
   exact .inl ⟨p,_,dx,_,v,rfl,hH,cl,na,hv,h1.now s1 _ rv⟩
  | exo c ks xs =>
   obtain ⟨hc,h1⟩:=Out.ifp h1
   obtain ⟨y,hy,h1⟩:=kJ h1
   obtain ⟨a,C',d,vs,rfl,hC',hH,hd,hR,hl⟩:=rv
   obtain ⟨C,hC,g,hh,no⟩:=F.x c hc
   rw [hC] at hC'
   cases hC'
   obtain ⟨v,hv,rv⟩:=nO hR hy
   exact .inr ⟨a,_,d,_,v,rfl,hH,hd,g,hh,no,hv,h1.now s1 _ rv⟩
  | _=>exact h1.elim⟩
def l_:Option SO->Option (String ⊕ (Bool×Str))
 | some (.lst _)=>some (.inl "list")
 | some (.dic _ _)=>some (.inl "dict")
 | some (.ins c _ _)=>some (.inr (false,c))
 | some (.fdi _ _)=>none
 | some (.dit _ _)=>none
 | none=>none
def kL (st:aa):PV->Option (String ⊕ (Bool×Str))
 | .non=>some (.inl "NoneType")
 | .bl _=>some (.inl "bool")
 | .int _=>some (.inl "int")
 | .str _=>some (.inl "str")
 | .tup _=>some (.inl "tuple")
 | .ref n=>l_ st[n]?
 | .exo c _ _=>some (.inr (true,c))
 | _=>none
def fO (o:Option Bool):Mo PV:=λst=>match o with
 | some b=>.ok (.bl b) st
 | none=>.stuck
def sN {ρ:Ae}{H:Hp}{o:Option Bool}{st:aa}{good}(h:Out K mg ρ H (fO o st) good Er):∃b,o=some b/\Out K mg ρ H (.ok (.bl b) st) good Er:=by
 cases o with
 | some x=>exact ⟨x,rfl,h⟩
 | none=>exact h.elim
structure IsT where
 isx:Str->Bool
 sub:Str->Str->Option Bool
 subT:Str->String->Option Bool
 tyC:String->Str->Option Bool
def uN (t:IsT) (st:aa):PV->Option (String ⊕ (Bool×Str))->Mo PV
 | .ty n,some (.inl T),st=>fO (gZ T n) st
 | .ty n,some (.inr (f,c)),st=>if t.isx c=f then fO (t.subT c n) st else .stuck
 | .fn B,some (.inl T),st=>fO (t.tyC T B) st
 | .fn B,some (.inr (f,c)),st=>if t.isx c=f then fO (t.sub c B) st else .stuck
 | _,_,_=>.stuck
def jS (t:IsT):Al
 | [x,y],st=>uN t st y (kL st x) st
 | _,_=>.stuck
structure uO (K:Frag) (C:Addr):Prop where
 cl:fw K C
 ha:findIn K (.ref C) "__class__" = some (some (.builtin "object.__class__"))
 hn:specialIn K (.builtin "object.__class__") "__get__" = some (some (.builtin "getset_descriptor.__get__"))
 tk:takesIn K (.builtin "object.__class__")=some true
 hm:mroIn K C (.type "object")=some true
structure IsF (K:Frag) (mg:Ab) (t:IsT):Prop where
 s:∀c B b,t.sub c B=some b->∃C D,mg c=some (.ref C)/\mg B=some (.ref D)/\kitOne K (.ref C) (.ref D)=some b
 tt:∀c n b,t.subT c n=some b->∃C,mg c=some (.ref C)/\kitOne K (.ref C) (.type n)=some b
 u:∀T B b,t.tyC T B=some b->∃D,mg B=some (.ref D)/\kitOne K (.type T) (.ref D)=some b
 x:∀c C,t.isx c=true->mg c=some (.ref C)->((∃B b,t.sub c B=some b)\/∃n b,t.subT c n=some b)->mX K C
 i:∀c C,t.isx c=false->mg c=some (.ref C)->((∃B b,t.sub c B=some b)\/∃n b,t.subT c n=some b)->uO K C
inductive ma (K:Frag) (H:Hp):V->Value->Prop where
 | of {v:V} {t:Value} (h:dv K H v t):ma K H v t
 | tup {a:Addr} {vs:List V} (h:a9 K H a vs):ma K H (.ref a) (.type "tuple")
 | exc {a C d:Addr} {fs:List (Str×V)} (ha:H a=some (gG C (some d) a)) (hd:H d=some (.xd fs)) (k:mX K C):ma K H (.ref a) (.ref C)
def Nx {pins:Ac}{U:L2.St}{H:Hp}{s:Shared}{v:V}{u t c:Value}{b:Bool}{Q:Aa}{A:Around}{E:Aa}(I:Inv X pins U H s) (r:RelV v u) (ty:ma X.K H v t) (e:kitOne X.K t c=some b) (h:∀tk,Q (.bool b) { s with toks:=tk }) :
  wpAny (model X.prog X.w) A (call (.builtin "isinstance") [u,c]) Q E s:=by
 cases ty with
 | of ty=>exact Kg I r ty e h
 | @tup a vs hq =>
  obtain rfl:u=Value.ref a:=r
  obtain ⟨its,_,p,_⟩:=I.tuple hq
  obtain ⟨o,h1,h2,_⟩:=p
  exact PySem.W.kia_one PySem.W.kitx_tuple I.kIn ⟨o,h1,h2⟩ e (λz=>nomatch z) h
 | @exc a C d fs ha hd k =>
  obtain rfl:u=Value.ref a:=r
  exact Md I ha hd k e h
def Ny:bY X (.builtin "isinstance") (λxs H Q=>∃v w t c b,xs=[v,w]/\ma X.K H v t/\RelV w c/\(∀c',RelV w c'->c'=c)/\kitOne X.K t c=some b/\Q (.bl b) H):=by
 intro pins s U H xs us Q I r h
 obtain ⟨v,w,t,c,b,rfl,ty,rw,un,e,q⟩:=h
 obtain ⟨u,w',rfl,ru,dn⟩:=BG r
 obtain rfl:=un w' dn
 exact Nx I ru ty e λtk=>⟨.bl b,H,I.tok _,rfl,q⟩
def Di {ρ:Ae}{H:Hp}{st:aa}{x:PV}{v:V}{T:String}(s:a7 K mg ρ H st) (r:R K mg ρ H x v) (h:kL st x=some (.inl T)):ma K H v (.type T):=by
 cases x with
 | non=>cases h;cases r;exact .of .non
 | bl b=>cases h;cases r;exact .of (.bl b)
 | int i=>cases h;cases r;exact .of (.int i)
 | str z=>cases h;cases r;exact .of (.str z)
 | tup xs=>cases h;obtain ⟨a,vs,rfl,h1,_⟩:=r;exact .tup h1
 | frl xs=>cases h
 | ref n =>
  obtain ⟨a,rfl,ha⟩:=r
  have h:l_ st[n]?=some (.inl T):=h
  cases e:st[n]? with
  | none=>rw [e] at h;cases h
  | some so =>
   rw [e] at h
   cases so with
   | lst xs=>cases h;obtain ⟨vs,h1,_⟩:=s.addr e ha;exact .of (.lst h1)
   | dic ks xs=>cases h;obtain ⟨vs,h1,_⟩:=s.addr e ha;exact .of (.dK h1)
   | ins c ks xs=>cases h
   | fdi ks xs=>cases h
   | dit ks xs=>cases h
 | ty _=>cases h
 | fn _=>cases h
 | kd _ _=>cases h
 | exo _ _ _=>cases h
def Dj {ρ:Ae}{H:Hp}{st:aa}{x:PV}{v:V}{f:Bool}{c:Str}(hx:∀C,f=true->mg c=some (.ref C)->mX K C) (hi:∀C,f=false->mg c=some (.ref C)->uO K C) (s:a7 K mg ρ H st) (r:R K mg ρ H x v) (h:kL st x=some (.inr (f,c))):∃C,mg c=some (.ref C)/\ma K H v (.ref C):=by
 cases x with
 | ref n =>
  obtain ⟨a,rfl,ha⟩:=r
  have h:l_ st[n]?=some (.inr (f,c)):=h
  cases e:st[n]? with
  | none=>rw [e] at h;cases h
  | some so =>
   rw [e] at h
   cases so with
   | lst xs=>cases h
   | dic ks xs=>cases h
   | fdi ks xs=>cases h
   | dit ks xs=>cases h
   | ins c' ks xs =>
    cases h
    obtain ⟨C,dx,vs,hC,hH,_⟩:=s.addr e ha
    have q:=hi C rfl hC
    exact ⟨C,hC,.of (.ins hH q.cl q.ha q.hn q.tk q.hm)⟩
 | exo c' ks xs =>
  cases h
  obtain ⟨a,C,d,vs,rfl,hC,hH,hd,_⟩:=r
  exact ⟨C,hC,.exc hH hd (hx C rfl hC)⟩
 | non=>cases h
 | bl _=>cases h
 | int _=>cases h
 | str _=>cases h
 | tup _=>cases h
 | frl _=>cases h
 | ty _=>cases h
 | fn _=>cases h
 | kd _ _=>cases h
def wT {t:IsT} (F:IsF X.K X.mg t):c_ X (.builtin "isinstance") (jS t):=⟨_,Ny,fun ρ H st xs vs Q E s r h=>by
 match xs,r,h with
 | [x,y],r,h =>
  obtain ⟨v,w,rfl,rx,ry⟩:=Rs.two r
  have h:Out X.K X.mg ρ H (uN t st y (kL st x) st) (gV X.K X.mg Q) E:=h
  cases hc:kL st x with
  | none=>rw [hc] at h;cases y<;>exact h.elim
  | some cc =>
   rw [hc] at h
   cases cc with
   | inl T =>
    cases y with
    | ty n =>
     cases ry
     obtain ⟨b,hb,h⟩:=sN h
     exact ⟨v,_,_,_,b,rfl,Di s rx hc,rfl,λc' h=>h,Nm X.K hb,h.now s _ rfl⟩
    | fn B =>
     obtain ⟨D,rfl,hD⟩:=ry
     obtain ⟨b,hb,h⟩:=sN h
     obtain ⟨D',hD',k⟩:=F.u T B b hb
     rw [hD] at hD'
     cases hD'
     exact ⟨v,_,_,_,b,rfl,Di s rx hc,rfl,λc' h=>h,k,h.now s _ rfl⟩
    | _=>exact h.elim
   | inr fc =>
    obtain ⟨f,c⟩:=fc
    cases y with
    | ty n =>
     cases ry
     obtain ⟨hf,h⟩:=Out.ifp h
     obtain ⟨b,hb,h⟩:=sN h
     obtain ⟨C,hC,k⟩:=F.tt c n b hb
     obtain ⟨C',hC',ty⟩:=Dj (λC e hC=>F.x c C (hf.trans e) hC (.inr ⟨n,b,hb⟩)) (λC e hC=>F.i c C (hf.trans e) hC (.inr ⟨n,b,hb⟩)) s rx hc
     rw [hC] at hC'
     cases hC'
     exact ⟨v,_,_,_,b,rfl,ty,rfl,λc' h=>h,k,h.now s _ rfl⟩
    | fn B =>
     obtain ⟨D,rfl,hD⟩:=ry
     obtain ⟨hf,h⟩:=Out.ifp h
     obtain ⟨b,hb,h⟩:=sN h
     obtain ⟨C,D',hC,hD',k⟩:=F.s c B b hb
     rw [hD] at hD'
     cases hD'
     obtain ⟨C',hC',ty⟩:=Dj (λC e hC=>F.x c C (hf.trans e) hC (.inl ⟨B,b,hb⟩)) (λC e hC=>F.i c C (hf.trans e) hC (.inl ⟨B,b,hb⟩)) s rx hc
     rw [hC] at hC'
     cases hC'
     exact ⟨v,_,_,_,b,rfl,ty,rfl,λc' h=>h,k,h.now s _ rfl⟩
    | _=>exact h.elim
 | [],r,h=>exact h.elim
 | [_],r,h=>exact h.elim
 | _::_::_::_,r,h=>exact h.elim⟩
end
section
variable {X:Cx}{Er:XK}{K:Frag}{mg:Ab}{a b c e o:Expr}{es:List Expr}{st:Stmt}{eR:List Stmt}{pos p apos pos':Pos}{fa fb fc fo:Ai}{fs:Ah}{k:Nat}{x:Str}{m:Al}
variable {g g' gb:Aj}{ga:Ak}
def Out.fl {ρ:Ae}{H:Hp}{st:aa}{D:Ends}{fl:Fl}{E:XK}(h:Out K mg ρ H (.ok fl st) (gS K mg D) E) (s:a7 K mg ρ H st):gS K mg D ρ H fl st:=h.now s
def zX:Aj:=λenv st=>.ok (.nx env) st
def gq (g:Aj):Fl->Mo Fl
 | .nx env,st=>g env st
 | fl,st=>.ok fl st
def zu (g g':Aj):Aj:=λenv st=>(g env st).bind (gq g')
def yr:fB X Er [] zX:=cy.weak Jg λD U H ⟨env,st,ρ,re,rs,h⟩=>h.now rs U re
def zy (h1:MS X Er st g) (h2:fB X Er eR g'):fB X Er (st::eR) (zu g g') :=
 cy.weak (Jh h1 h2) λD U H ⟨env,st,ρ,re,rs,h⟩=>⟨env,st,ρ,re,rs,h.then λag H1 fl ae e1 s1 h1=>by
  cases fl with
  | nx cm=>exact λaw Nz=>⟨cm,ae,ag,Nz,s1,h1⟩
  | rt v=>exact Out.fl (D:=D) (fl:=.rt v) (E:=Er) h1 s1
  | bk cm=>exact Out.fl (D:=D) (fl:=.bk cm) (E:=Er) h1 s1
  | ct cm=>exact Out.fl (D:=D) (fl:=.ct cm) (E:=Er) h1 s1⟩
def zB (h1:MS X Er st g):fB X Er [st] g:=Ji h1
def zJ (i:Nat) (f:Ai):Aj:=λenv st=>(f env st).bind λx ae=>.ok (.nx (env.set i (some x))) ae
def zV (i:Nat) {x:Str}(he:ME X Er e fa) (hN:X.N.Nodup) (hi:X.N[i]?=some x:=by rfl) (hx:Loc X.env.scope x:=by first|exact Or.inl rfl|exact Or.inr rfl) (hs:swapsWith e (some (.Name x pos')) pos.line X.env=pure false:=by rfl)
  (hf:X.fn x=true\/X.env.scope.names.lookup x=some .local:=by first|exact .inl rfl|exact .inr rfl|assumption):MS X Er (.Assign [.Name x pos'] e pos) (zJ i fa) :=
 PS.weak (Js hN hi hx he hs hf) λD U H ⟨env,st,ρ,re,rs,h⟩=>⟨env,st,ρ,re,rs,h.then λag H1 x ae e1 s1 h1 v rv=>h1.now s1 _ ((re.ext e1).set i rv)⟩
def jb (f:Ai):Aj:=λenv st=>(f env st).bind λ_ ae=>.ok (.nx env) ae
def wu (he:ME X Er e fa) (hs:swapsWith e none pos.line X.env=pure false:=by rfl):MS X Er (.Expr e pos) (jb fa) :=
 PS.weak (Jk he hs) λD U H ⟨env,st,ρ,re,rs,h⟩=>⟨env,st,ρ,re,rs,h.then λag H1 x ae e1 s1 h1 v rv=>h1.now s1 _ (re.ext e1)⟩
def zP (f:Ai):Aj:=λenv st=>(f env st).bind λx ae=>.ok (.rt x) ae
def zS (he:ME X Er e fa):MS X Er (.Return (some e) pos) (zP fa) :=
 PS.weak (Jm he) λD U H ⟨env,st,ρ,re,rs,h⟩=>⟨env,st,ρ,re,rs,h.then λag H1 x ae e1 s1 h1 v rv=>h1.now s1 _ rv⟩
def zT (t:Ak) (g g':Aj):Aj:=λenv st=>(t env st).bind λc ae=>if c=true then g env ae else g' env ae
def yj {A B:List Stmt}(hc:MT X Er c ga) (ha:fB X Er A g) (hb:fB X Er B g'):MS X Er (.If c A B pos) (zT ga g g') :=
 PS.weak (Jo hc ha hb) λD U H ⟨env,st,ρ,re,rs,h⟩=>⟨env,st,ρ,re,rs,h.then λag H1 k ae e1 s1 h1=>by
  cases k with
  | true=>exact ⟨env,ae,ag,re.ext e1,s1,h1⟩
  | false=>exact ⟨env,ae,ag,re.ext e1,s1,h1⟩⟩
def iM:Am
 | .int i,.int j,st=>.ok (.int (i+j)) st
 | _,_,_=>.stuck
def pS (i:Nat) (op:Am) (f:Ai):Aj:=λenv st=>(zc i env st).bind λx df=>(f env df).bind λy ae=>(op x y ae).bind λz aA=>.ok (.nx (env.set i (some z))) aA
def uP (X:Cx) (o:Operator) (op:Am):Prop:=∃r,uZ X o r/\d5 X.K X.mg r op
def Dk:uP X .Add iM:=⟨_,Jx,by
 intro ρ H st x y v w Q E s rx ry h
 cases x with
 | int i =>
  cases y with
  | int j=>cases rx;cases ry;exact ⟨i,j,rfl,rfl,Out.now (x:=PV.int (i+j)) h s _ rfl⟩
  | _=>exact h.elim
 | _=>exact h.elim⟩
def Dl (i:Nat) {x:Str}{o:Operator}{op:Am}(ho:uP X o op) (he:ME X Er e fa) (hN:X.N.Nodup) (hi:X.N[i]?=some x:=by rfl) (hx:Loc X.env.scope x:=by first|exact Or.inl rfl|exact Or.inr rfl)
  (hf:X.fn x=true\/X.env.scope.names.lookup x=some .local:=by first|exact .inl rfl|exact .inr rfl|assumption):MS X Er (.AugAssign (.Name x pos') o e pos) (pS i op fa):=by
 obtain ⟨r,h1,h2⟩:=ho
 refine PS.weak (Ju hN hi hx he h1 hf) λD U H ⟨env,st,ρ,re,rs,h⟩=>?_
 unfold pS zc at h
 cases hx:env[i]? with
 | none=>simp only [hx] at h;exact h.elim
 | some q =>
  cases q with
  | none=>simp only [hx] at h;exact h.elim
  | some x0 =>
   simp only [hx] at h
   obtain ⟨v,hv,rv⟩:=re.at_ i x0 hx
   exact ⟨v,hv,env,st,ρ,re,rs,Out.then (f:=λy ae=>(op x0 y ae).bind λz aA=>Res.ok (Fl.nx (env.set i (some z))) aA) (good:=gS X.K X.mg D) h λag H1 y ae e1 s1 k1 w rw=>h2 ag H1 ae x0 y v w _ Er s1 (R.ext e1 x0 rv) rw (k1.then λaq H2 z aA e2 s2 k2 u ru=>k2.now s2 _ (((re.ext e1).ext e2).set i ru))⟩
def putK (f:Str) (x:PV):List Str->List PV->List Str×List PV
 | k::ks,y::ys=>if k=f then (k::ks,x::ys) else (k::(putK f x ks ys).1,y::(putK f x ks ys).2)
 | _,_=>([f],[x])
theorem Dm {ρ:Ae}{H:Hp}{f:Str}{x:PV}{v:V}(r:R K mg ρ H x v):∀{ks:Ad}{xs:An}{vs:List V},ks.length=vs.length->Rs K mg ρ H xs vs->∃ws,cz f v (ks.zip vs)=(putK f x ks xs).1.zip ws/\Rs K mg ρ H (putK f x ks xs).2 ws/\(putK f x ks xs).1.length=ws.length
 | [],xs,vs,hl,h=>by
  have:vs=[]:=by cases vs with|nil=>rfl|cons=>simp at hl
  subst this
  have:xs=[]:=by cases xs with|nil=>rfl|cons=>obtain ⟨_,_,e,_⟩:=h;cases e
  subst this
  exact ⟨[v],rfl,⟨v,[],rfl,r,rfl⟩,rfl⟩
 | k::ks,xs,vs,hl,h=>by
  cases vs with
  | nil=>simp at hl
  | cons v0 vs =>
   cases xs with
   | nil=>cases h
   | cons y ys =>
    obtain ⟨X1,r',e,h1,h2⟩:=h
    cases e
    simp only [putK,List.zip_cons_cons,cz]
    by_cases hk:k=f
    ·rw [zx hk,zx hk]
     exact ⟨v::vs,rfl,⟨v,vs,rfl,r,h2⟩,by simpa using hl⟩
    ·rw [zH hk,zH hk]
     obtain ⟨ws,e1,e2,e3⟩:=Dm r (by simpa using hl) h2
     exact ⟨v0::ws,by rw [e1];rfl,⟨v0,ws,rfl,h1,e2⟩,by simp [e3]⟩
def putAt (f:Str) (ins:Str->Bool) (x:PV):PV->Mo Unit
 | .ref n,st=>yV st n λc ks xs=>if ins c=true/\ks.length<1000 then .ok () (st.set n (.ins c (putK f x ks xs).1 (putK f x ks xs).2)) else .stuck
 | _,_=>.stuck
def sFld (f:Str) (ins:Str->Bool) (fo fv:Ai):Aj:=λenv st=>(fv env st).bind λx ae=>(fo env ae).bind λo aA=>(putAt f ins x o aA).bind λ_ a0=>.ok (.nx env) a0
theorem j9 {f:Str}{ins exc:Str->Bool}(F:FldF X.K X.mg f ins exc) (ho:ME X Er o fo) (he:ME X Er e fa) (hs:swapsWith e (some (.Attribute o f pos')) pos.line X.env=pure false:=by rfl):MS X Er (.Assign [.Attribute o f pos'] e pos) (sFld f ins fo fa) :=
 PS.weak (Kf ho he hs) λD U H ⟨env,st,ρ,re,rs,h⟩=>⟨env,st,ρ,re,rs,h.then λag H1 x ae e1 s1 h1 v rv=>⟨env,ae,ag,re.ext e1,s1,h1.then λaq H2 y aA e2 s2 h2 w rw=>by
  cases y with
  | ref n =>
   cases hn:aA[n]? with
   | none=>simp only [putAt,yV,hn] at h2;exact h2.elim
   | some so =>
    cases so with
    | lst _=>simp only [putAt,yV,hn] at h2;exact h2.elim
    | dic _ _=>simp only [putAt,yV,hn] at h2;exact h2.elim
    | fdi _ _=>simp only [putAt,yV,hn] at h2;exact h2.elim
    | dit _ _=>simp only [putAt,yV,hn] at h2;exact h2.elim
    | ins c ks xs =>
     simp only [putAt,yV,hn] at h2
     by_cases hc:ins c=true/\ks.length<1000
     ·rw [zx hc] at h2
      obtain ⟨p,rfl,hp⟩:=rw
      obtain ⟨C',dx,vs,hC',hH,hR,hl⟩:=s2.addr hn hp
      obtain ⟨C,hC,cl,na⟩:=F.i c hc.1
      rw [hC] at hC'
      cases hC'
      obtain ⟨ws,k1,k2,k3⟩:=Dm (f:=f) (R.ext e2 x rv) hl hR
      refine ⟨p,_,dx,_,rfl,hH,cl,na,?_,?_⟩
      ·rw [List.length_zip,<-hl];have:=hc.2;omega
      ·have ew:Ext aq H2 aq (upd H2 p (.ins C' dx (cz f v (ks.zip vs)))):=Ext.write hH rfl
       exact h2 aq _ ew (s2.write hp ew ⟨_,dx,ws,hC,by rw [y0,k1],Rs.ext ew _ k2,k3⟩) U (((re.ext e1).ext e2).ext ew)
     ·rw [zH hc] at h2;exact h2.elim
  | _=>exact h2.elim⟩⟩
def MG (X:Cx) (Er:XK) (e:Expr) (g:PV->zd->Option zd):Prop:=PG X e λv U H Q=>∃x env bQ ρ,R X.K X.mg ρ H x v/\a8 X.K X.mg ρ H env U/\g x env=some bQ/\∀ai,a8 X.K X.mg ρ H bQ ai->Q ai H
def PG.weak {t t':TG}(h:PG X e t) (w:∀v U H Q,t' v U H Q->t v U H Q):PG X e t':=λpins s U H v u Q I r q=>h pins s U H v u Q I r (w v U H Q q)
def gN (i:Nat):PV->zd->Option zd:=λx env=>some (env.set i (some x))
def wD (i:Nat) {x:Str}(hN:X.N.Nodup) (hi:X.N[i]?=some x:=by rfl) (hx:Loc X.env.scope x:=by first|exact Or.inl rfl|exact Or.inr rfl) (hf:X.fn x=true\/X.env.scope.names.lookup x=some .local:=by first|exact .inl rfl|exact .inr rfl|assumption):MG X Er (.Name x pos) (gN i) :=
 PG.weak (wq hN hi hx hf) λv U H Q ⟨x,env,bQ,ρ,rx,re,hg,q⟩=>by
  cases hg
  exact q _ (re.set i rx)
def g2 (i j:Nat):PV->zd->Option zd
 | .tup [x,y],env=>some ((env.set i (some x)).set j (some y))
 | _,_=>none
def NA {i j:Nat}{x:PV}{env bQ:zd}(h:g2 i j x env=some bQ):∃y z,x=.tup [y,z]/\bQ=(env.set i (some y)).set j (some z):=by
 unfold g2 at h
 split at h
 ·cases h;exact ⟨_,_,rfl,rfl⟩
 ·cases h
def pU (i j:Nat) {x y:Str}{kt:Nat}{px py:Pos}(hc:X.calm=true) (hN:X.N.Nodup) (hi:X.N[i]?=some x:=by rfl) (hj:X.N[j]?=some y:=by rfl) (hx:Loc X.env.scope x:=by first|exact Or.inl rfl|exact Or.inr rfl) (hy:Loc X.env.scope y:=by first|exact Or.inl rfl|exact Or.inr rfl)
  (hf:X.fn x=true\/X.env.scope.names.lookup x=some .local:=by first|exact .inl rfl|exact .inr rfl|assumption) (NB:X.fn y=true\/X.env.scope.names.lookup y=some .local:=by first|exact .inl rfl|exact .inr rfl|assumption):MG X Er (.Tuple [.Name x px,.Name y py] kt pos) (g2 i j) :=
 PG.weak (rA (n:=2) hc (kf (wq hN hi hx hf) (kf (wq hN hj hy NB) rq))) λv U H Q ⟨x,env,bQ,ρ,rx,re,hg,q⟩=>by
  obtain ⟨y,z,rfl,rfl⟩:=NA hg
  obtain ⟨a,vs,rfl,h1,h2⟩:=rx
  obtain ⟨u,w,rfl,r1,r2⟩:=Rs.two h2
  exact ⟨a,_,rfl,h1,rfl,u,[w],rfl,w,[],rfl,rfl,q _ ((re.set i r1).set j r2)⟩
def g3 (i j k:Nat):PV->zd->Option zd
 | .tup [x,y,z],env=>some (((env.set i (some x)).set j (some y)).set k (some z))
 | _,_=>none
inductive Sq where
 | im (xs:An)|rf (n:Nat)
def Walk (K:Frag) (mg:Ab) (J:It) (ρ:Ae) (H:Hp):Sq->Prop
 | .im xs=>(∀i aj H',Ext ρ H aj H'->i<xs.length->J.go i H')/\(∀i aj H',Ext ρ H aj H'->xs.length<=i->J.stop i H') /\
  ∀i aj H' st v H2,Ext ρ H aj H'->a7 K mg aj H' st->i<xs.length->J.yld i H' v H2->∃x,xs[i]?=some x/\Ext aj H' aj H2/\a7 K mg aj H2 st/\R K mg aj H2 x v
 | .rf n=>∃a,ρ[n]?=some a/\J=rE K a
def MI (X:Cx) (Er:XK) (tg iter:Expr) (src:zd->Mo Sq):Prop:=PI X tg iter λU H R=>∃env st ρ,a8 X.K X.mg ρ H env U/\a7 X.K X.mg ρ H st/\Out X.K X.mg ρ H (src env st) (λaj H' q bx=>∀J,Walk X.K X.mg J aj H' q->R J H') Er
def forL (g:PV->zd->Option zd) (body:Aj):List PV->Aj
 | [],env,st=>.ok (.nx env) st
 | x::xs,env,st=>match g x env with
  | none=>.stuck
  | some cm=>(body cm st).bind λfl aA=>match fl with
   | .nx e=>forL g body xs e aA
   | .ct e=>forL g body xs e aA
   | .bk e=>.ok (.nx e) aA
   | .rt v=>.ok (.rt v) aA
def forR (g:PV->zd->Option zd) (body:Aj) (n:Nat):Nat->Nat->Aj
 | 0,_,_,_=>.stuck
 | m+1,i,env,st=>yl st n λxs=>match xs[i]? with
  | none=>.ok (.nx env) st
  | some x=>match g x env with
   | none=>.stuck
   | some cm=>(body cm st).bind λfl aA=>match fl with
    | .nx e=>forR g body n m (i+1) e aA
    | .ct e=>forR g body n m (i+1) e aA
    | .bk e=>.ok (.nx e) aA
    | .rt v=>.ok (.rt v) aA
def pV (g:PV->zd->Option zd) (body:Aj):Sq->Aj
 | .im xs=>forL g body xs
 | .rf n=>forR g body n (lim+1) 0
def jf (src:zd->Mo Sq) (g:PV->zd->Option zd) (body:Aj):Aj:=λenv st=>(src env st).bind λq ae=>pV g body q env ae
theorem wa {tg iter:Expr}{src:zd->Mo Sq}{gt:PV->zd->Option zd}(hp:PassesOwn (model X.prog X.w) X.A X.env X.xe) (hc:X.calm=true) (hi:MI X Er tg iter src) (hg:MG X Er tg gt) (hb:fB X Er eR gb)
  (hs:∀x,foldedSetIterable iter X.env x=pure x:=by intro _;rfl):MS X Er (.For tg iter eR [] pos) (jf src gt gb) :=
 PS.weak (Bz hp hc hi hg hb hs) λD U H ⟨env,st,ρ,re,rs,h⟩=>⟨env,st,ρ,re,rs,h.then λar H0 q df e0 s0 h0 J wk=>by
  cases q with
  | im xs =>
   obtain ⟨w1,w2,w3⟩:=wk
   refine ⟨λi m U H=>m=xs.length-i/\i<=xs.length/\∃env st ρ,a8 X.K X.mg ρ H env U/\a7 X.K X.mg ρ H st/\Ext ar H0 ρ H/\Out X.K X.mg ρ H (forL gt gb (xs.drop i) env st) (gS X.K X.mg D) Er,⟨xs.length,by simp,jj _,env,df,ar,re.ext e0,s0,Ext.refl,h0⟩,?_⟩
   rintro i m U H ⟨rfl,hi,env,st,ρ,re,rs,ex,h⟩
   by_cases bw:i<xs.length
   ·refine .inr ⟨w1 i ρ H ex bw,_,λai H' p'=>⟨xs.length-(i+1),by omega,rfl,bw,p'⟩,λv H' y=>?_⟩
    obtain ⟨x,hx,bD,s2,rx⟩:=w3 i ρ H st v H' ex rs bw y
    have hd:xs.drop i=x::xs.drop (i+1):=by
     rw [jW bw]
     have:=(yv.mp hx).2
     rw [this]
    rw [hd] at h
    cases hgx:gt x env with
    | none=>simp only [forL,hgx] at h;exact h.elim
    | some cm =>
     simp only [forL,hgx] at h
     refine ⟨x,env,cm,ρ,rx,re.ext bD,hgx,λaw r1=>⟨cm,st,ρ,r1,s2,Out.then (Out.ext h bD) λak H3 fl a0 e3 s3 h3=>?_⟩⟩
     cases fl with
     | nx e=>exact λaE r4=>⟨e,a0,ak,r4,s3,(ex.trans bD).trans e3,h3⟩
     | ct e=>exact λaE r4=>⟨e,a0,ak,r4,s3,(ex.trans bD).trans e3,h3⟩
     | bk e=>exact Out.fl (D:=D) (fl:=.nx e) (E:=Er) h3 s3
     | rt v=>exact Out.fl (D:=D) (fl:=.rt v) (E:=Er) h3 s3
   ·have e:i=xs.length:=by omega
    subst e
    rw [List.drop_length] at h
    exact .inl ⟨w2 _ ρ H ex (ye _),Out.now (x:=Fl.nx env) h rs U re⟩
  | rf n =>
   obtain ⟨a,ha,rfl⟩:=wk
   refine ⟨λi m U H=>∃env st ρ,a8 X.K X.mg ρ H env U/\a7 X.K X.mg ρ H st/\ρ[n]?=some a/\Out X.K X.mg ρ H (forR gt gb n m i env st) (gS X.K X.mg D) Er,⟨lim+1,env,df,ar,re.ext e0,s0,ha,h0⟩,?_⟩
   rintro i m U H ⟨env,st,ρ,re,rs,ha,h⟩
   cases m with
   | zero=>exact h.elim
   | succ m =>
    obtain ⟨xs,hn,h⟩:=jw h
    obtain ⟨vs,hH,hR⟩:=rs.addr hn ha
    cases hx:xs[i]? with
    | none =>
     simp only [hx] at h
     have:vs.length<=i:=by rw [<-hR.len];exact lD.mp hx
     exact .inl ⟨⟨vs,a6.of hH,this⟩,Out.now (x:=Fl.nx env) h rs U re⟩
    | some x =>
     simp only [hx] at h
     obtain ⟨v,hv,rv⟩:=hR.get hx
     refine .inr ⟨⟨vs,v,a6.of hH,hv⟩,_,λai H' p'=>⟨m,jK m,p'⟩,λv' H' y=>?_⟩
     obtain ⟨e1,y⟩:=y
     subst e1
     have e2:=y vs (a6.of hH)
     rw [hv] at e2
     cases e2
     cases hgx:gt x env with
     | none=>simp only [hgx] at h;exact h.elim
     | some cm =>
      simp only [hgx] at h
      refine ⟨x,env,cm,ρ,rv,re,hgx,λaw r1=>⟨cm,st,ρ,r1,rs,Out.then h λak H3 fl a0 e3 s3 h3=>?_⟩⟩
      cases fl with
      | nx e=>exact λaE r4=>⟨e,a0,ak,r4,s3,e3.get ha,h3⟩
      | ct e=>exact λaE r4=>⟨e,a0,ak,r4,s3,e3.get ha,h3⟩
      | bk e=>exact Out.fl (D:=D) (fl:=.nx e) (E:=Er) h3 s3
      | rt v=>exact Out.fl (D:=D) (fl:=.rt v) (E:=Er) h3 s3⟩
end
section
variable {X:Cx}{Er:XK}{K:Frag}{mg:Ab}{a b c e o tg:Expr}{es:List Expr}{st:Stmt}{eR:List Stmt}{pos p apos pos':Pos}{fa fb fc fo:Ai}{fs:Ah}{k:Nat}{x:Str}{m:Al}
variable {g g' gb:Aj}{ga:Ak}
def PI.weak {t t':TI}(h:PI X tg e t) (w:∀U H Q,t' U H Q->t U H Q):PI X tg e t':=λpins s U H Q I q=>h pins s U H Q I (w U H Q q)
def NC (K:Frag) (tl:TE):TI:=λU H R=>tl U H λx H1=>(∃a,x=.ref a/\(∃xs,a6 K H1 a xs)/\R (rE K a) H1)\/(∃a,x=.ref a/\(∃xs,a9 K H1 a xs)/\R (nq K a) H1)\/∃z,x=.str z/\R (vC z) H1
def ND {l:Expr}{tl:TE}(hl:PE X l tl):PI X tg l (NC X.K tl):=by
 intro pins s U H R I h
 refine aV (hl pins s U H _ I h) λv s1 ⟨x,H1,I1,r1,q1⟩=>?_
 have fin:∀b∈[s1.heap.objs.size],cU X pins H1 b:=λb hb=>by
  have e:b=s1.heap.objs.size:=by simpa using hb
  subst e
  exact I1.fpOk (ye _) (I1.hok.fresh (ye _))
 rcases q1 with ⟨a,e,⟨xs,hq⟩,q⟩|⟨a,e,⟨xs,hq⟩,q⟩|⟨z,rfl,q⟩
 ·subst e
  cases r1
  obtain ⟨its,rv,p,hz⟩:=I1.list hq
  exact wpAny_pyIter_list p.isList ⟨s1.heap.objs.size,[s1.heap.objs.size],_,_,H1,rfl,I1.kept (t':=s1.toks) (λb o e=>yk _ e),JA a _,⟨_,yY _ rfl,rfl,rfl⟩,fin,q⟩
 ·subst e
  cases r1
  obtain ⟨its,rv,p,hz⟩:=I1.tuple hq
  exact wpAny_pyIter_tuple (show s1.heap.IsTuple a its.toArray from p) ⟨s1.heap.objs.size,[s1.heap.objs.size],_,_,H1,rfl,I1.kept (t':=s1.toks) (λb o e=>yk _ e),JB a _,⟨_,yY _ rfl,rfl,rfl⟩,fin,q⟩
 ·obtain ⟨t,rfl⟩:=r1
  cases ha:z.cps.all (·<128) with
  | false=>exact wpAny_pyIter_wide ha ⟨s1.heap.objs.size,[s1.heap.objs.size],_,_,H1,rfl,I1.kept (t':=s1.toks) (λb o e=>yk _ e),CA z t _ "str_iterator" (.inr rfl),⟨_,yY _ rfl,rfl,rfl⟩,fin,q⟩
  | true=>exact wpAny_pyIter_ascii ha ⟨s1.heap.objs.size,[s1.heap.objs.size],_,_,H1,rfl,I1.kept (t':=s1.toks) (λb o e=>yk _ e),CA z t _ "str_ascii_iterator" (.inl rfl),⟨_,yY _ rfl,rfl,rfl⟩,fin,q⟩
def NF {ρ:Ae}{H:Hp}{a:Addr}{xs:An}{vs:List V}(h:a9 K H a vs) (r:Rs K mg ρ H xs vs):Walk K mg (nq K a) ρ H (.im xs):=by
 refine ⟨λi aj H' e hi=>?_,λi aj H' e hi=>⟨vs,e.sqT h,by rw [<-r.len];exact hi⟩,λi aj H' st v H2 e s hi y=>?_⟩
 ·obtain ⟨v,hv,_⟩:=r.get (yo hi)
  exact ⟨vs,v,e.sqT h,hv⟩
 ·obtain ⟨e1,y⟩:=y
  subst e1
  obtain ⟨v',hv,rv⟩:=r.get (yo hi)
  have:=y vs (e.sqT h)
  rw [hv] at this
  cases this
  exact ⟨_,yo hi,Ext.refl,s,R.ext e _ rv⟩
def NG {ρ:Ae}{H:Hp}{a:Addr}{xs:An}{vs:List V}(h:iI K H a vs) (r:Rs K mg ρ H xs vs):Walk K mg (rE K a) ρ H (.im xs):=by
 have hs:∀{aj H'},Ext ρ H aj H'->a6 K H' a vs:=λe=>(e.frl h).sq
 refine ⟨λi aj H' e hi=>?_,λi aj H' e hi=>⟨vs,hs e,by rw [<-r.len];exact hi⟩,λi aj H' st v H2 e s hi y=>?_⟩
 ·obtain ⟨v,hv,_⟩:=r.get (yo hi)
  exact ⟨vs,v,hs e,hv⟩
 ·obtain ⟨e1,y⟩:=y
  subst e1
  obtain ⟨v',hv,rv⟩:=r.get (yo hi)
  have:=y vs (hs e)
  rw [hv] at this
  cases this
  exact ⟨_,yo hi,Ext.refl,s,R.ext e _ rv⟩
def signs (z:Str):An:=z.cps.toList.map λc=>.str ⟨#[c]⟩
def NH {ρ:Ae}{H:Hp}(z:Str):Walk K mg (vC z) ρ H (.im (signs z)):=by
 have hl:(signs z).length=z.cps.size:=by simp [signs]
 refine ⟨λi aj H' e hi=>by rw [hl] at hi;exact hi,λi aj H' e hi=>by rw [hl] at hi;exact hi,λi aj H' st v H2 e s hi y=>?_⟩
 obtain ⟨e1,c,hc,e2⟩:=y
 subst e1 e2
 refine ⟨.str ⟨#[c]⟩,?_,Ext.refl,s,rfl⟩
 simp [signs,hc]
def nums (lo:Int) (n:Nat):An:=(List.range n).map λi=>.int (lo+(i:Nat))
def NI {ρ:Ae}{H:Hp}(lo:Int) (n:Nat):Walk K mg (oS lo n) ρ H (.im (nums lo n)):=by
 have hl:(nums lo n).length=n:=by simp [nums]
 refine ⟨λi aj H' e hi=>by rw [hl] at hi;exact hi,λi aj H' e hi=>by rw [hl] at hi;exact hi,λi aj H' st v H2 e s hi y=>?_⟩
 obtain ⟨e1,e2⟩:=y
 subst e1 e2
 rw [hl] at hi
 exact ⟨.int (lo+i),by simp [nums,hi],Ext.refl,s,rfl⟩
def mf:PV->Mo Sq
 | .tup xs,st=>.ok (.im xs) st
 | .frl xs,st=>.ok (.im xs) st
 | .str z,st=>.ok (.im (signs z)) st
 | .ref n,st=>yl st n λ_=>.ok (.rf n) st
 | _,_=>.stuck
def yD (f:Ai):zd->Mo Sq:=λenv st=>(f env st).bind mf
def jg (h:ME X Er e fa):MI X Er tg e (yD fa):=PI.weak (ND h) λU H Q ⟨env,st,ρ,re,rs,h⟩=>⟨env,st,ρ,re,rs,h.then λag H1 x ae e1 s1 h1 v rv=>by
 cases x with
 | tup xs =>
  obtain ⟨a,vs,rfl,k1,k2⟩:=rv
  exact .inr (.inl ⟨a,rfl,⟨vs,k1⟩,Out.now (x:=Sq.im xs) h1 s1 _ (NF k1 k2)⟩)
 | frl xs =>
  obtain ⟨a,vs,rfl,k1,k2⟩:=rv
  exact .inl ⟨a,rfl,⟨vs,k1.sq⟩,Out.now (x:=Sq.im xs) h1 s1 _ (NG k1 k2)⟩
 | str z =>
  cases rv
  exact .inr (.inr ⟨z,rfl,Out.now (x:=Sq.im (signs z)) h1 s1 _ (NH z)⟩)
 | ref n =>
  obtain ⟨a,rfl,ha⟩:=rv
  obtain ⟨xs,hn,h1⟩:=jw h1
  obtain ⟨vs,k1,k2⟩:=s1.addr hn ha
  exact .inl ⟨a,rfl,⟨vs,a6.of k1⟩,h1.now s1 _ ⟨a,ha,rfl⟩⟩
 | _=>exact h1.elim⟩
abbrev cR (j:Int):Bool:=decide (-(2 ^ 62)<=j)&&decide (j<2 ^ 62)
def nQ:List PV->Mo Sq
 | [.int j],st=>if cR j=true then .ok (.im (nums 0 j.toNat)) st else .stuck
 | _,_=>.stuck
def NJ:List PV->Mo Sq
 | [.int i,.int j],st=>if cR i=true/\cR j=true then .ok (.im (nums i (j-i).toNat)) st else .stuck
 | _,_=>.stuck
def NK {ρ:Ae}{H:Hp}{xs:An}{st:aa}{good:List Addr->Hp->Sq->aa->Prop}(h:Out K mg ρ H (nQ xs st) good Er):∃j,xs=[.int j] /\ -(2 ^ 62)<=j/\j<2 ^ 62/\Out K mg ρ H (.ok (.im (nums 0 j.toNat)) st) good Er:=by
 unfold nQ at h
 split at h
 ·obtain ⟨c,h⟩:=Out.ifp h
  simp [cR] at c
  exact ⟨_,rfl,c.1,c.2,h⟩
 ·exact h.elim
def fY (fs:Ah):zd->Mo Sq:=λenv st=>(fs env st).bind nQ
def u7 (fs:Ah):zd->Mo Sq:=λenv st=>(fs env st).bind NJ
def NL {a:Expr} (hm:X.mg "range" = none) (ha:MA X Er [a] fs) (hg:Gl X "range" := by rfl) (hs:starEach [a] X.env=[(false,eval a X.env)]:=by rfl):MI X Er tg (.Call (.Name "range" p) [a] [] pos) (fY fs) :=
 PI.weak (JE hg hm ha hs) λU H Q ⟨env,st,ρ,re,rs,h⟩=>⟨env,st,ρ,re,rs,h.then λag H1 xs ae e1 s1 h1 vs rv=>by
  obtain ⟨j,rfl,c1,c2,h1⟩:=NK h1
  obtain ⟨v,rfl,rfl⟩:=Rs.one rv
  exact ⟨j,rfl,c1,c2,h1.now s1 _ (NI 0 j.toNat)⟩⟩
def wb (xs ys:An):An:=(xs.zip ys).map λq=>.tup [q.1,q.2]
def pW:List PV->Mo Sq
 | [.tup xs,.tup ys],st=>.ok (.im (wb xs ys)) st
 | _,_=>.stuck
def NM {ρ:Ae}{H:Hp}{xs:An}{st:aa}{good:List Addr->Hp->Sq->aa->Prop}(h:Out K mg ρ H (pW xs st) good Er):∃ys zs,xs=[.tup ys,.tup zs]/\Out K mg ρ H (.ok (.im (wb ys zs)) st) good Er:=by
 unfold pW at h
 split at h
 ·exact ⟨_,_,rfl,h⟩
 ·exact h.elim
theorem NN {ρ:Ae}{H:Hp}{a b:Addr}{xs ys:An}{vs ws:List V}(h:a9 K H a vs) (r:Rs K mg ρ H xs vs) (h':a9 K H b ws) (r':Rs K mg ρ H ys ws):Walk K mg (vR K a b) ρ H (.im (wb xs ys)):=by
 have hl:(wb xs ys).length=min xs.length ys.length:=by simp [wb]
 have l1:=r.len
 have l2:=r'.len
 refine ⟨λi aj H' e hi=>?_,λi aj H' e hi=>⟨vs,ws,e.sqT h,e.sqT h',by rw [hl] at hi;omega⟩,λi aj H' st v H2 e s hi y=>?_⟩
 ·rw [hl] at hi
  obtain ⟨v,hv,_⟩:=r.get (yo (show i<xs.length by omega))
  obtain ⟨w,hw,_⟩:=r'.get (yo (show i<ys.length by omega))
  exact ⟨vs,ws,v,w,e.sqT h,e.sqT h',hv,hw⟩
 ·rw [hl] at hi
  obtain ⟨T,v',w',hT,rfl,rfl,y1,y2⟩:=y
  have k1:i<xs.length:=by omega
  have k2:i<ys.length:=by omega
  obtain ⟨v,hv,rv⟩:=r.get (yo k1)
  obtain ⟨w,hw,dn⟩:=r'.get (yo k2)
  have q1:=y1 vs (e.sqT h)
  have q2:=y2 ws (e.sqT h')
  rw [hv] at q1
  rw [hw] at q2
  cases q1;cases q2
  refine ⟨.tup [xs[i],ys[i]],?_,Ext.new hT,s.new hT,R.tup_of ⟨_,[_],rfl,R.ext e _ rv,_,[],rfl,R.ext e _ dn,rfl⟩ hT⟩
  rw [wb,yZ,yo (by simp;omega)]
  simp
def nR (fs:Ah):zd->Mo Sq:=λenv st=>(fs env st).bind pW
def NP {elts:List Expr} {kt:Nat} {tp:Pos} {x y:Expr} (hm:X.mg "zip" = none) (ha:MA X Er [x,y] fs) (hg:Gl X "zip" := by rfl) (hs:starEach [x,y] X.env=[(false,eval x X.env),(false,eval y X.env)]:=by rfl) (lH:starEach [y] X.env=[(false,eval y X.env)]:=by rfl) :
  MI X Er (.Tuple elts kt tp) (.Call (.Name "zip" p) [x,y] [] pos) (nR fs) :=
 PI.weak (Mq hg hm ha hs lH) λU H Q ⟨env,st,ρ,re,rs,h⟩=>⟨env,st,ρ,re,rs,h.then λag H1 xs ae e1 s1 h1 vs rv=>by
  obtain ⟨ys,zs,rfl,h1⟩:=NM h1
  obtain ⟨v,w,rfl,⟨a,us,rfl,k1,k2⟩,⟨b,ws,rfl,k3,k4⟩⟩:=Rs.two rv
  exact ⟨a,b,rfl,⟨us,k1⟩,⟨ws,k3⟩,h1.now s1 _ (NN k1 k2 k3 k4)⟩⟩
def cg (t:Ak) (b:Aj):Nat->Aj
 | 0,_,_=>.stuck
 | n+1,env,st=>(t env st).bind λc ae=>if c=true then (b env ae).bind λfl aA=>match fl with
   | .nx e=>cg t b n e aA
   | .ct e=>cg t b n e aA
   | .bk e=>.ok (.nx e) aA
   | .rt v=>.ok (.rt v) aA
  else .ok (.nx env) ae
def sO (t:Ak) (b:Aj):Aj:=cg t b lim
def NQ (hp:PassesOwn (model X.prog X.w) X.A X.env X.xe) (hc:MT X Er c ga) (hb:fB X Er eR gb):MS X Er (.While c eR [] pos) (sO ga gb) :=
 PS.weak (Jz hp hc hb) λD U H ⟨env,st,ρ,re,rs,h⟩=>by
  refine ⟨λm U H=>∃env st ρ,a8 X.K X.mg ρ H env U/\a7 X.K X.mg ρ H st/\Out X.K X.mg ρ H (cg ga gb m env st) (gS X.K X.mg D) Er,⟨lim,env,st,ρ,re,rs,h⟩,?_⟩
  rintro m U H ⟨env,st,ρ,re,rs,h⟩
  cases m with
  | zero=>exact h.elim
  | succ m =>
   refine ⟨env,st,ρ,re,rs,Out.then h λag H1 k ae e1 s1 h1=>?_⟩
   cases k with
   | true =>
    change (if true=true then _ else D.nx U H1)
    rw [zx rfl]
    refine ⟨_,λai H' p'=>⟨m,jK m,p'⟩,env,ae,ag,re.ext e1,s1,Out.then h1 λak H3 fl a0 e3 s3 h3=>?_⟩
    cases fl with
    | nx e=>exact λaE r4=>⟨e,a0,ak,r4,s3,h3⟩
    | ct e=>exact λaE r4=>⟨e,a0,ak,r4,s3,h3⟩
    | bk e=>exact Out.fl (D:=D) (fl:=.nx e) (E:=Er) h3 s3
    | rt v=>exact Out.fl (D:=D) (fl:=.rt v) (E:=Er) h3 s3
   | false =>
    have z:D.nx U H1:=Out.fl (D:=D) (fl:=.nx env) (E:=Er) h1 s1 U (re.ext e1)
    exact z
def pG (cn:Str):Aj:=λ_ st=>.err cn [] [] st
def bG {α:Type}:Res α->Res α
 | .err _ _ _ _=>.stuck
 | r=>r
def jC {α β:Type}{ρ:Ae}{H:Hp}{r:Res β}{f:β->Mo α}{good:List Addr->Hp->α->aa->Prop}{d_:List Addr->Hp->β->aa->Prop}{E E':XK}(h:Out K mg ρ H ((bG r).bind f) good E) (g:∀aj H' x st,Ext ρ H aj H'->a7 K mg aj H' st->Out K mg aj H' (f x st) good E->d_ aj H' x st):Out K mg ρ H r d_ E':=by
 cases r with
 | ok x st=>exact λaj H' e s=>g aj H' x st e s (Out.ext h e)
 | err=>exact h.elim
 | stuck=>exact h.elim
def NR (K:Frag) (mg:Ab) (f:Ai):TX:=λU H Q E=>∃env st ρ,a8 K mg ρ H env U/\a7 K mg ρ H st/\Out K mg ρ H (f env st) (gV K mg Q) E
def MX (X:Cx) (e:Expr) (f:Ai):Prop:=PX X e (NR X.K X.mg f)
def PX.weak {t t':TX}(h:PX X e t) (w:∀U H Q E,t' U H Q E->t U H Q E):PX X e t':=λpins s U H Q E I q=>h pins s U H Q E I (w U H Q E q)
def NS (X:Cx) (name:Str) (k:Nat) (ta:TE) (t:TA):TX:=λU H Q E=>ta U H λx H1=>∃a C dx fs f fd ps sp,x=.ref a/\H1 a=some (.ins C dx fs)/\fs.lookup name=none/\fw X.K C/\Meth X.K C name f/\Binds X.K fd ps []/\br X.prog X.w X.K X.mg X.base (cj X.prog X.w) k f fd ps sp /\
 t U H1 λvs H2=>sp (x::vs) H2 Q E
def NT {pl:Sem Bool}{name:Str}{ta:TE}{t:TA}(he:PE X.nox o ta) (hr:aY k X.A) (ha:PA X.nox (e::es) t)
  (bH:starEach (e::es) X.env=(false,eval e X.env)::starEach es X.env:=by rfl) (bu:(backTo pos (starEach es X.env)).any (·.1)=false:=by rfl)
  (ht:eval (.Call (.Attribute o name apos) (e::es) [] pos) X.env=(do
   let ov <-eval o X.env
   standAt apos.atName
   let (f,first) <-holding [ov] (getMethod ov name pl)
   callWith pos f first (backTo pos (starEach (e::es) X.env)) (backToKw pos (keywordEach [] X.env))):=by rfl) :
  PX X (.Call (.Attribute o name apos) (e::es) [] pos) (NS X name k ta t):=by
 intro pins s U H Q E I h
 refine PySem.W.methodCall_KW (pl:=pl) (yP (he pins s U H _ (I.wish _) h) (λu s1 ⟨x,H1,I1,rx,a,C,dx,fs,f,fd,ps,sp,ex,ea,l,c,hm,hb,F,q⟩=>?_) λ_ _ z=>z.elim) ht
 subst ex
 obtain rfl:u=Value.ref a:=rx
 refine u_ I1.unwish ea c hm l ?_
 refine PySem.W.callWith_K (first:=[.ref a]) (h₀:=X.base) I.ok.mod.kin hm.kp (yP (ha pos pins s1 U H1 _ I1 q) (λus s2 ⟨vs,H2,I2,r,q2⟩=>⟨I2.unwish.kIn,?_⟩) λ_ _ z=>z.elim) bH bu
 exact LX (us:=.ref a::us) (vs:=.ref a::vs) F hr hb .nil I2.unwish (.cons rfl r) (by rw [List.append_nil];exact q2)
def gI (name:Str) (tab:Str->Option (Al)) (fo:Ai) (fs:Ah):Ai:=λenv st=>(bG (fo env st)).bind λo ae=>iL name tab o ae λn m=>(bG (fs env ae)).bind λys aA=>m (.ref n::ys) aA
def NU {pl:Sem Bool}{name:Str}{tab:Str->Option (Al)}(hT:∀c m,tab c=some m->cC X.prog X.w X.K X.mg X.base c name k m) (ho:ME X.nox E0 o fo) (hr:aY k X.A) (ha:MA X.nox E0 (e::es) fs)
  (bH:starEach (e::es) X.env=(false,eval e X.env)::starEach es X.env:=by rfl) (bu:(backTo pos (starEach es X.env)).any (·.1)=false:=by rfl)
  (pR:eval (.Call (.Attribute o name apos) (e::es) [] pos) X.env=(do
   let ov <-eval o X.env
   standAt apos.atName
   let (f,first) <-holding [ov] (getMethod ov name pl)
   callWith pos f first (backTo pos (starEach (e::es) X.env)) (backToKw pos (keywordEach [] X.env))):=by rfl) :
  MX X (.Call (.Attribute o name apos) (e::es) [] pos) (gI name tab fo fs) :=
 PX.weak (NT (pl:=pl) ho hr ha bH bu pR) λU H Q E ⟨env,st,ρ,re,rs,h⟩=>⟨env,st,ρ,re,rs,jC h λag H1 x ae e1 s1 h1 v rv=>by
  obtain ⟨n,c,ks,xs,m,rfl,hn,hk,hc,h1⟩:=xh h1
  obtain ⟨C,f,fd,ps,hC,cl,hm,hb,F⟩:=hT c m hc
  obtain ⟨p,rfl,hp⟩:=rv
  obtain ⟨C',dx,vs,hC',hH,hR,hl⟩:=s1.addr hn hp
  rw [hC] at hC'
  cases hC'
  exact ⟨p,C,dx,_,f,fd,ps,_,rfl,hH,pQ hk,cl,hm,hb,F,env,ae,ag,re.ext e1,s1,jC h1 λaq H2 ys aA e2 s2 h2 ws rws=>⟨.ref n::ys,aA,aq,⟨_,_,rfl,⟨p,rfl,e2.get hp⟩,rws⟩,s2,h2⟩⟩⟩
def kM (ks:Ad) (ps:An):PV->Mo PV
 | .str z,st=>bP ((ks.zip ps).lookup z) st
 | _,_=>.stuck
def KdF (X:Cx) (name:Str) (ks:Ad) (ps:An) (full:Bool):Prop:=∃O,X.mg name=some (.ref O)/\KD X O/\(∀z q,(ks.zip ps).lookup z=some q->∃u v,nsIn X.K O z=some (some u)/\RelV v u/\∀ρ H,R X.K X.mg ρ H q v)/\(full=true->∀z,(ks.zip ps).lookup z=none->nsIn X.K O z=some none)
def zeP {name:Str} {ks:Ad} {ps:An} {full:Bool} (F:KdF X name ks ps full) (hb:ME X Er b fb) (hs:fH b:=by exact λ_ _=>rfl) (hg:Gl X name:=by rfl) (hd:(name==("__debug__" : Str))=false:=by decide):ME X Er (.Subscript (.Name name p) b pos) (yg (kM ks ps) fb):=by
 obtain ⟨O,hm,kd,hl,_⟩:=F
 refine PE.weak (B_ Mr (uY (v:=.ref O) hg hm rfl hd) hb hs) λU H Q ⟨env,st,ρ,re,rs,h⟩=>⟨env,st,ρ,re,rs,h.then λag H1 x ae e1 s1 h1 v rv=>?_⟩
 cases x with
 | str z =>
  cases rv
  obtain ⟨q,hq,h1⟩:=kJ h1
  obtain ⟨u,v,h2,h3,h4⟩:=hl z q hq
  exact ⟨O,z,u,v,rfl,rfl,kd,h2,h3,h1.now s1 _ (h4 _ _)⟩
 | _=>exact h1.elim
def hV (neg:Bool) (ks:Ad) (ps:An) (full:Bool):PV->Mo PV
 | .str z,st=>if ((ks.zip ps).lookup z).isSome=true\/full=true then .ok (.bl (neg.xor ((ks.zip ps).lookup z).isSome)) st else .stuck
 | _,_=>.stuck
def NV {name:Str}{ks:Ad}{ps:An}{full:Bool}{O:Addr}(hl:∀z q,(ks.zip ps).lookup z=some q->∃u v,nsIn X.K O z=some (some u)/\RelV v u/\∀ρ H,R X.K X.mg ρ H q v) (hf:full=true->∀z,(ks.zip ps).lookup z=none->nsIn X.K O z=some none) {z:Str}(h:((ks.zip ps).lookup z).isSome=true\/full=true):∃r,nsIn X.K O z=some r/\r.isSome=((ks.zip ps).lookup z).isSome:=by
 cases hq:(ks.zip ps).lookup z with
 | some q=>obtain ⟨u,v,h2,_⟩:=hl z q hq;exact ⟨_,h2,rfl⟩
 | none =>
  rw [hq] at h
  rcases h with h|h
  ·cases h
  ·exact ⟨none,hf h z hq,rfl⟩
def zpr {name:Str} {ks:Ad} {ps:An} {full:Bool} (F:KdF X name ks ps full) (ha:ME X Er a fa) (hg:Gl X name:=by rfl) (hd:(name==("__debug__" : Str))=false:=by decide) (hk:behindInMarks .NotIn (.Name name p)=false:=by with_unfolding_all rfl):MT X Er (.Compare a [.NotIn] [.Name name p] pos) (mB (yg (hV true ks ps full) fa)):=by
 obtain ⟨O,hm,kd,hl,hf⟩:=F
 refine PT.weak (BC Ms ha (uY (v:=.ref O) hg hm rfl hd) hk) λU H Q h=>?_
 obtain ⟨env,st,ρ,re,rs,h⟩:=vU h
 refine ⟨env,st,ρ,re,rs,h.then λag H1 x ae e1 s1 h1 v rv=>?_⟩
 cases x with
 | str z =>
  cases rv
  obtain ⟨q,h1⟩:=Out.ifp h1
  obtain ⟨r,h2,h3⟩:=NV (name:=name) hl hf q
  have:=Out.now h1 s1 _ rfl
  exact ⟨O,z,r,rfl,rfl,kd,h2,by rw [h3];simpa using this⟩
 | _=>exact h1.elim
def js:Am
 | .ref n,y,st=>yl st n λxs=>if xs.length<lim then .ok .non (st.set n (.lst (xs++[y]))) else .stuck
 | _,_,_=>.stuck
def xi:Am
 | .ref n,.ref k,st=>yl st n λxs=>yl st k λys=>if xs.length+ys.length<=lim then .ok .non (st.set n (.lst (xs++ys))) else .stuck
 | _,_,_=>.stuck
def R.refL {ρ:Ae}{H:Hp}{st:aa}{n:Nat}{xs:An}{v:V}(s:a7 K mg ρ H st) (r:R K mg ρ H (.ref n) v) (h:st[n]?=some (.lst xs)):∃a vs,v=.ref a/\ρ[n]?=some a/\H a=some (.lst vs)/\Rs K mg ρ H xs vs:=by
 obtain ⟨a,rfl,ha⟩:=r
 obtain ⟨vs,h1,h2⟩:=s.addr h ha
 exact ⟨a,vs,rfl,ha,h1,h2⟩
def kN:PV->Mo PV
 | .ref n,st=>yl st n λ_=>.ok (.ref n) st
 | _,_=>.stuck
def jh (op:Am) (fo fv:Ai):Ai:=λenv st=>(fo env st).bind λo ae=>(kN o ae).bind λo ae=>(fv env ae).bind λy aA=>op o y aA
def Dp {α:Type}{ρ:Ae}{H:Hp}{x:PV}{st:aa}{f:PV->Mo α}{good:List Addr->Hp->α->aa->Prop}(h:Out K mg ρ H ((kN x st).bind f) good Er):∃n xs,x=.ref n/\st[n]?=some (.lst xs)/\Out K mg ρ H (f (.ref n) st) good Er:=by
 cases x with
 | ref n =>
  unfold kN yl at h
  cases hn:st[n]? with
  | none=>simp only [hn] at h;exact h.elim
  | some so =>
   cases so with
   | lst xs=>simp only [hn] at h;exact ⟨n,xs,rfl,hn,h⟩
   | _=>simp only [hn] at h;exact h.elim
 | _=>exact h.elim
theorem zak {a_:Pos} (ho:ME X Er o fo) (he:ME X Er e fa) (dF:attributeBase o "append" X.env (eval o X.env)=eval o X.env:=by rfl)
  (gy:((backTo a_ (starEach [e] X.env)).all (λx=>!x.1)&&(backToKw a_ (keywordEach [] X.env)).all (λx=>x.1.isSome)&&decide ([e].length+([]:List Keyword).length+(if ([]:List Keyword).isEmpty then 0 else 1)<30))=true:=by rfl)
  (fA:(apos.endLine==a_.line)=true:=by rfl) (hs:starEach [e] X.env=(false,eval e X.env)::starEach [] X.env:=by rfl) (bu:(backTo a_ (starEach [] X.env)).any (·.1)=false:=by rfl):ME X Er (.Call (.Attribute o "append" apos) [e] [] a_) (jh js fo fa) :=
 PE.weak (vd PySem.F.plainAttrs_list PySem.F.slot_list_append PySem.F.type_list_append znz ho (rL he rK hs) dF gy fA hs bu) λU H Q ⟨env,st,ρ,re,rs,h⟩=>⟨env,st,ρ,re,rs,h.then λag H1 x ae e1 s1 h1 v rv=>by
  obtain ⟨n,xs,rfl,hn,h1⟩:=Dp h1
  obtain ⟨p,vs,rfl,hp,k1,k2⟩:=R.refL s1 rv hn
  refine ⟨.inl ⟨rfl,vs,a6.of k1⟩,env,ae,ag,re.ext e1,s1,h1.then λaq H2 y aA e2 s2 h2 w rw=>?_⟩
  obtain ⟨Dq,gU,h2⟩:=jw h2
  obtain ⟨c,h2⟩:=Out.ifp h2
  obtain ⟨p',ky,e3,pF,k3,k4⟩:=R.refL s2 (R.ext e2 _ rv) gU
  cases e3
  have ew:Ext aq H2 aq (upd H2 p (.lst (ky++[w]))):=Ext.write k3 rfl
  refine ⟨p,ky,w,rfl,rfl,k3,?_,h2 aq _ ew (s2.write pF ew ⟨ky++[w],y0,Rs.ext ew _ (k4.append ⟨w,[],rfl,rw,rfl⟩)⟩) _ rfl⟩
  rw [<-k4.len,sizeLine_eq];have:Dq.length<1000000:=c;omega⟩
def zps {a_:Pos} (ho:ME X Er o fo) (he:ME X Er e fa) (dF:attributeBase o "extend" X.env (eval o X.env)=eval o X.env:=by rfl)
  (gy:((backTo a_ (starEach [e] X.env)).all (λx=>!x.1)&&(backToKw a_ (keywordEach [] X.env)).all (λx=>x.1.isSome)&&decide ([e].length+([]:List Keyword).length+(if ([]:List Keyword).isEmpty then 0 else 1)<30))=true:=by rfl)
  (fA:(apos.endLine==a_.line)=true:=by rfl) (hs:starEach [e] X.env=(false,eval e X.env)::starEach [] X.env:=by rfl) (bu:(backTo a_ (starEach [] X.env)).any (·.1)=false:=by rfl):ME X Er (.Call (.Attribute o "extend" apos) [e] [] a_) (jh xi fo fa) :=
 PE.weak (vd PySem.F.plainAttrs_list PySem.F.slot_list_extend PySem.F.type_list_extend znB ho (rL he rK hs) dF gy fA hs bu) λU H Q ⟨env,st,ρ,re,rs,h⟩=>⟨env,st,ρ,re,rs,h.then λag H1 x ae e1 s1 h1 v rv=>by
  obtain ⟨n,xs,rfl,hn,h1⟩:=Dp h1
  obtain ⟨p,vs,rfl,hp,k1,k2⟩:=R.refL s1 rv hn
  refine ⟨.inl ⟨rfl,vs,a6.of k1⟩,env,ae,ag,re.ext e1,s1,h1.then λaq H2 y aA e2 s2 h2 w rw=>?_⟩
  cases y with
  | ref m =>
   obtain ⟨Dq,gU,h2⟩:=jw h2
   obtain ⟨X2,NW,h2⟩:=jw h2
   obtain ⟨c,h2⟩:=Out.ifp h2
   obtain ⟨p',ky,e3,pF,k3,k4⟩:=R.refL s2 (R.ext e2 _ rv) gU
   cases e3
   obtain ⟨q,xj,rfl,iG,k5,k6⟩:=R.refL s2 rw NW
   have ew:Ext aq H2 aq (upd H2 p (.lst (ky++xj))):=Ext.write k3 rfl
   exact ⟨p,q,ky,xj,rfl,rfl,k3,k5,by rw [<-k4.len,<-k6.len];exact yR c,h2 aq _ ew (s2.write pF ew ⟨ky++xj,y0,Rs.ext ew _ (k4.append k6)⟩) _ rfl⟩
  | _=>exact h2.elim⟩
end
def endOf:Fl->Mo PV
 | .rt v,st=>.ok v st
 | .nx _,st=>.ok .non st
 | _,_=>.stuck
def zL (np nN:Nat) (g:Aj):Al:=λxs st=>if xs.length=np then (g (xs.map some++List.replicate (nN-np) none) st).bind endOf else .stuck
section
variable {P:Program}{w:World}{K:Frag}{mg:Ab}{base:Heap}
abbrev sP (P:Program) (w:World) (K:Frag) (mg:Ab) (base:Heap) (N:Ad) (qual:Str) (scope:Scope) (f:Addr) (cd:Value) (A:Around) (outer:List Env) (s:Shared) (H:Hp) (E:XK):Cx :=
 (dy (cj P w) P w K mg base N qual scope f cd A outer s H E).wish (XA (dy (cj P w) P w K mg base N qual scope f cd A outer s H E) E)
theorem NX {N:Ad}{np:Nat}{ρ:Ae}{H:Hp}{xs:An}{vs:List V}(r:Rs K mg ρ H xs vs) (h:xs.length=np):a8 K mg ρ H (xs.map some++List.replicate (N.length-np) none) (L2.start N vs):=by
 have hl:=r.len
 refine ⟨by simp [L2.start,<-hl,h],λi x hx=>?_⟩
 by_cases hi:i<xs.length
 ·rw [ib (by simpa using hi)] at hx
  simp only [yZ] at hx
  cases hq:xs[i]? with
  | none=>rw [hq] at hx;cases hx
  | some y =>
   rw [hq] at hx
   cases hx
   obtain ⟨v,hv,rv⟩:=r.get hq
   refine ⟨v,?_,rv⟩
   unfold L2.start
   rw [ib (by simp;omega)]
   simp [hv]
 ·rw [ic (by simpa using hi)] at hx
  rw [List.getElem?_replicate] at hx
  split at hx<;>cases hx
def sQ {x qual:Str}{sm:Stmt}{f:Addr}{fd:FuncData}{N ps:Ad}{k:Nat}{g:Aj}(F:dZ K x qual sm f fd) (S:au N ps (zF sm))
  (hb:∀(aX:Value) (A:Around) (outer:List Env) (s:Shared) (H:Hp) (E:XK),aY k (A.deeper (PyProof.Rows.envOfC qual (zF sm) s.heap.objs.size f aX))->fB (sP P w K mg base N qual (zF sm) f aX A outer s H E) E (jo sm) g) :
  br P w K mg base (cj P w) (k+1) f fd ps (g0 K mg (zL ps.length N.length g)):=by
 refine F.okT S (λvs H Q E h=>?_) λaX A outer s H vs Q E hr h=>⟨_,hb aX A outer s H E hr,?_⟩
 ·obtain ⟨xs,st,ρ,r,_,h⟩:=h
  obtain ⟨hl,_⟩:=Out.ifp h
  rw [<-r.len];exact hl
 ·obtain ⟨xs,st,ρ,r,rs,h⟩:=h
  obtain ⟨hl,h⟩:=Out.ifp h
  refine ⟨_,st,ρ,NX r hl,rs,h.then λag H1 fl ae e1 s1 h1=>?_⟩
  cases fl with
  | rt v=>exact λu ru=>Out.now (x:=v) h1 s1 u ru
  | nx e=>exact λai _=>Out.now (x:=PV.non) h1 s1 _ rfl
  | _=>exact h1.elim
def NY {x:Str}{f:Addr}{fd:FuncData}{ps:Ad}{k:Nat}{m:Al}{sm:Stmt}{qual nm:Str}(hm:mg x=some (.ref f)) (F:dZ K nm qual sm f fd) (hb:Binds K fd ps []) (h:br P w K mg base (cj P w) k f fd ps (g0 K mg m)):bg P w K mg base x k m:=⟨f,fd,ps,hm,F.kp,hb,h⟩
end
section
variable {X:Cx}{Er:XK}{P:Program}{w:World}{K:Frag}{mg:Ab}{base:Heap}{pos:Pos}{x:Str}{st:Stmt}
theorem zo {k:Nat}{A:Around}(hr:aY k A):A.units+200<cLine:=by have:=hr.un;omega
def yw:Aj:=λ_ _=>.stuck
def yI:MS X Er st yw:=PS.weak Jp λD U H ⟨env,st,ρ,re,rs,h⟩=>h
def xk {n:Int} (h:∃t,X.mg x=some (.int n t)) (hg:Gl X x:=by rfl) (hd:(x==("__debug__" : Str))=false:=by decide):ME X Er (.Name x pos) (mC (.int n)):=let ⟨t,h⟩:=h;My (v:=.int n) h ⟨t,rfl⟩ (λ_ _=>rfl) hg hd
def FnF (K:Frag) (mg:Ab) (x:Str) (sm:Stmt) (ps:Ad):Prop:=∃f fd,mg x=some (.ref f)/\dZ K x x sm f fd/\Binds K fd ps []
def MtF (K:Frag) (mg:Ab) (c name qual:Str) (sm:Stmt) (ps:Ad):Prop:=∃C f fd,mg c=some (.ref C)/\fw K C/\Meth K C name f/\dZ K name qual sm f fd/\Binds K fd ps []
def NwF (K:Frag) (mg:Ab) (c qual:Str) (sm:Stmt) (ps:Ad):Prop:=∃C f fd,mg c=some (.ref C)/\Mk K C f/\dZ K "__init__" qual sm f fd/\Binds K fd ps []
def XnF (K:Frag) (mg:Ab) (c fld qual:Str) (sm:Stmt):Prop:=∃C f fd,mg c=some (.ref C)/\gF K C f/\l6 K C fld/\dZ K "__init__" qual sm f fd/\Binds K fd ["self", fld] []
def FnF.ok {sm:Stmt}{N ps:Ad}{k:Nat}{g:Aj}(h:FnF K mg x sm ps) (S:au N ps (zF sm))
  (hb:∀(f:Addr) (aX:Value) (A:Around) (outer:List Env) (s:Shared) (H:Hp) (E:XK),aY k (A.deeper (PyProof.Rows.envOfC x (zF sm) s.heap.objs.size f aX))->fB (sP P w K mg base N x (zF sm) f aX A outer s H E) E (jo sm) g) :
  bg P w K mg base x (k+1) (zL ps.length N.length g):=by
 obtain ⟨f,fd,hm,F,b⟩:=h
 exact NY hm F b (sQ F S (hb f))
def MtF.ok {c name qual:Str}{sm:Stmt}{N ps:Ad}{k:Nat}{g:Aj}(h:MtF K mg c name qual sm ps) (S:au N ps (zF sm))
  (hb:∀(f:Addr) (aX:Value) (A:Around) (outer:List Env) (s:Shared) (H:Hp) (E:XK),aY k (A.deeper (PyProof.Rows.envOfC qual (zF sm) s.heap.objs.size f aX))->fB (sP P w K mg base N qual (zF sm) f aX A outer s H E) E (jo sm) g) :
  cC P w K mg base c name (k+1) (zL ps.length N.length g):=by
 obtain ⟨C,f,fd,hm,cl,mt,F,b⟩:=h
 exact ⟨C,f,fd,ps,hm,cl,mt,b,sQ F S (hb f)⟩
def NwF.ok {c qual:Str}{sm:Stmt}{N ps:Ad}{k:Nat}{g:Aj}(h:NwF K mg c qual sm ps) (S:au N ps (zF sm))
  (hb:∀(f:Addr) (aX:Value) (A:Around) (outer:List Env) (s:Shared) (H:Hp) (E:XK),aY k (A.deeper (PyProof.Rows.envOfC qual (zF sm) s.heap.objs.size f aX))->fB (sP P w K mg base N qual (zF sm) f aX A outer s H E) E (jo sm) g) :
  g9 P w K mg base c (k+1) (zL ps.length N.length g):=by
 obtain ⟨C,f,fd,hm,mk,F,b⟩:=h
 exact ⟨C,f,fd,ps,hm,mk,b,sQ F S (hb f)⟩
def XnF.ok {c fld qual:Str} {sm:Stmt} (h:XnF K mg c fld qual sm) (S:au ["self", fld] ["self", fld] (zF sm))
  (hb:∀(C f:Addr) (aX:Value) (A:Around) (outer:List Env) (s:Shared) (H:Hp) (E:XK),l6 K C fld->cy (dy (cj P w) P w K mg base ["self", fld] qual (zF sm) f aX A outer s H E) (jo sm) (LV K (uX 0) (uX 1) fld)) :
  Nn P w K mg base c fld:=by
 obtain ⟨C,f,fd,hm,M,xc,F,b⟩:=h
 refine ⟨C,f,fd,hm,M,F.okX S (λvs H Q E h=>?_) (λaX A outer s H vs Q E hr h=>⟨_,hb C f aX A outer s H E xc,?_⟩),b⟩
 ·obtain ⟨a,t,y,rfl,_⟩:=h;rfl
 ·obtain ⟨a,t,y,rfl,ha,q⟩:=h
  exact ⟨y,rfl,.ref a,rfl,a,C,t,rfl,ha,xc,λd hd=>q d hd⟩
def XnF.tr {c fld qual:Str}{sm:Stmt}(h:XnF K mg c fld qual sm):∃C,mg c=some (.ref C)/\kA K C:=by
 obtain ⟨C,f,fd,hm,M,_⟩:=h
 exact ⟨C,hm,M.of⟩
theorem Ds {p:Addr} {oc:Value} {od:Option Addr} {its:Array Value} {n:Nat} {sl:Array (Option Value)} {xs:An} {vs:List V} (hl:K.lookup p=some ⟨oc,od,.seq its n,sl⟩) (hc:oc=.type "tuple") (hz:its.size<=1000) (hv:Vals vs its.toList) (hr:∀ρ H,Rs K mg ρ H xs vs):∀ρ H,R K mg ρ H (.tup xs) (.ref p) :=
 fun ρ H=>⟨p,vs,rfl,.inr ⟨_,its,n,hl,hc,rfl,by rw [sizeLine_eq];omega,hv⟩,hr ρ H⟩
theorem jO:bootBuiltins "len" = some (.builtin "len"):=by decide +kernel
theorem wU:bootBuiltins "isinstance" = some (.builtin "isinstance"):=by decide +kernel
theorem xl:bootBuiltins "int" = some (.type "int"):=by decide +kernel
theorem NZ:bootBuiltins "bool" = some (.type "bool"):=by decide +kernel
theorem xm:bootBuiltins "str" = some (.type "str"):=by decide +kernel
theorem ji:bootBuiltins "tuple" = some (.type "tuple"):=by decide +kernel
theorem Dt:bootBuiltins "dict" = some (.type "dict"):=by decide +kernel
theorem N0:bootBuiltins "list" = some (.type "list"):=by decide +kernel
end
def bg.mono {P:Program}{w:World}{K:Frag}{mg:Ab}{base:Heap}{x:Str}{j k:Nat}{m:Al}(h:bg P w K mg base x j m) (xo:j<=k):bg P w K mg base x k m:=by
 obtain ⟨f,fd,ps,h1,h2,h3,h4⟩:=h
 exact ⟨f,fd,ps,h1,h2,h3,h4.mono xo⟩
def cC.mono {P:Program}{w:World}{K:Frag}{mg:Ab}{base:Heap}{c x:Str}{j k:Nat}{m:Al}(h:cC P w K mg base c x j m) (xo:j<=k):cC P w K mg base c x k m:=by
 obtain ⟨C,f,fd,ps,h1,h2,h3,h4,h5⟩:=h
 exact ⟨C,f,fd,ps,h1,h2,h3,h4,h5.mono xo⟩
def iN (K:Frag):Sp:=λvs H Q _=>∃(a:Addr) (ns:List Int),vs=[.ref a]/\a6 K H a (ns.map V.int)/\Only H/\ns.length<=63/\∀H',Q (.bl true) H'
theorem Du {K:Frag}{mg:Ab}{ρ:Ae}{H:Hp}:∀ns:List Int,Rs K mg ρ H (ns.map PV.int) (ns.map V.int)
 | []=>rfl
 | n::ns=>⟨_,_,rfl,rfl,Du ns⟩
def N1 {K:Frag}{H:Hp}{a:Addr}{vs:List V}(h:a6 K H a vs) (o:Only H):iI K H a vs:=by
 rcases h with (h|⟨ob,h⟩)|h
 ·rcases o a with z|⟨ob,xs,z⟩
  ·rw [h] at z;cases z
  ·rw [h] at z;cases z
 ·exact .inl ⟨ob,h⟩
 ·exact .inr h
def N5 {P:Program}{w:World}{K:Frag}{mg:Ab}{base:Heap}{k:Nat}{f:Addr}{fd:FuncData}{ps:Ad}{m:Al}(F:br P w K mg base (cj P w) k f fd ps (g0 K mg m)) (h:∀ns:List Int,ns.length<=63->∃st,m [.frl (ns.map PV.int)] []=.ok (.bl true) st):br P w K mg base (cj P w) k f fd ps (iN K) :=
 F.imp λvs H Q E ⟨a,ns,e,hs,ho,hl,q⟩=>by
  subst e
  obtain ⟨st,hm⟩:=h ns hl
  refine ⟨[.frl (ns.map PV.int)],[],[],⟨_,[],rfl,⟨a,_,rfl,N1 hs ho,Du ns⟩,rfl⟩,⟨rfl,List.nodup_nil,λn so e=>by simp at e⟩,?_⟩
  rw [hm]
  intro aj H' _ _ v rv
  cases rv
  exact q H'
def walkM {l:PySem.W.OpenLaw}{k:Nat}{x:Str}{q:Program}{loose:Ad}{XP:(Ab)->Heap->Prop}{YP:World->Heap->Prop}{d:DefRec}{K:Params->PySem.W.Frag}(hn:l.most=some 63) (pd:d.params.defaults=[]) (hr:aY k callerA)
  (hY:∀(w:World) (h:Heap),YP w h->(K w.params).In h)
  (F:∀(w:World) (mg:Ab) (fa:Addr) (h:Heap),(K w.params).In h->h.Ns mainGlobals mg->mg d.name=some (.ref fa) ->
   ∃fd:FuncData,(∀(s:Shared) (u:Value),BindsTo s fd ⟨[u],[]⟩ [(x,u)])/\∀base:Heap,(K w.params).In base->base.Ns mainGlobals mg->br l.prog w (K w.params) mg base (cj l.prog w) k fa fd [x] (iN (K w.params))) :
  PySem.W.WalkO q loose XP YP l.row.toRowW d [] (λf vs=>PySem.call f vs) :=
 L2.znI (n:=63) (k:=k) (x:=x) (CX:=λw=>cj l.prog w) (sp:=λw=>iN (K w.params)) hn (by decide) pd hr hY F (λ_ _ a ns hl ho hS=>⟨a,ns,rfl,hS,ho,hl,λ_=>rfl⟩) λw H s e s' ⟨_,_,_,_,_,_,_,_,_,_,_,_,_,_,_,z⟩=>z
section
variable {α β:Type}{env:zd}{st ae:aa}{fa fb fc fo fv:Ai}{fs:Ah}{ga gb:Ak}{g g':Aj}{op dX:Am}{o1:PV->Mo PV}{m:Al}
@[simp] def zG (a:α) (f:α->Mo β):(Res.ok a st).bind f=f a st:=(rfl)
@[simp] def X3 (f:α->Mo β):(Res.stuck:Res α).bind f=.stuck:=(rfl)
@[simp] def X4 (p:Prop) [Decidable p] (a b:Res α) (f:α->Mo β):(if p then a else b).bind f=if p then a.bind f else b.bind f:=by split<;>rfl
@[simp] def N6 (i:Nat):zc i env st=(match env[i]? with|some (some x)=>.ok x st|_=>.stuck):=(rfl)
@[simp] def X5 (x:PV):mC x env st=.ok x st:=(rfl)
@[simp] def N7:zh op fa fb env st=(fa env st).bind λx ae=>(fb env ae).bind λy aA=>op x y aA:=(rfl)
@[simp] def N8:yg o1 fa env st=(fa env st).bind o1:=(rfl)
@[simp] def N9:mB fa env st=(fa env st).bind gm:=(rfl)
@[simp] def xq (b:Bool):gm (.bl b) st=.ok b st:=(rfl)
@[simp] def X6:pM op dX fa fb fc env st=(fa env st).bind λx ae=>(fb env ae).bind λy aA=>(op x y aA).bind λk a0=>(gm k a0).bind λb cY=>if b=true then (fc env cY).bind λz dm=>dX y z dm else .ok (.bl false) cY:=(rfl)
@[simp] def Dv:jF ga gb env st=(ga env st).bind λc ae=>if c=true then gb env ae else .ok false ae:=(rfl)
@[simp] def Dw:wA ga gb env st=(ga env st).bind λc ae=>if c=true then .ok true ae else gb env ae:=(rfl)
@[simp] def N_:kC ga env st=(ga env st).bind λc ae=>.ok (!c) ae:=(rfl)
@[simp] def Dx:kD fa fb env st=(fa env st).bind λx ae=>(gm x ae).bind λc aA=>if c=true then fb env aA else .ok (.bl false) aA:=(rfl)
@[simp] def X7:zk env st=.ok [] st:=(rfl)
@[simp] def Oa:ze fa fs env st=(fa env st).bind λx ae=>(fs env ae).bind λxs aA=>.ok (x::xs) aA:=(rfl)
@[simp] def Oc:yd fs env st=(fs env st).bind λxs ae=>if xs.length<=lim then .ok (.tup xs) ae else .stuck:=(rfl)
@[simp] def Od:jz fs env st=(fs env st).bind λxs ae=>if xs.length<=lim then .ok (.ref ae.length) (ae++[.lst xs]) else .stuck:=(rfl)
@[simp] def Oe (fl fu:zd->Mo (Option Int)):l9 fa fl fu env st=(fa env st).bind λx ae=>(fl env ae).bind λl aA=>(fu env aA).bind λu a0=>pO x l u a0:=(rfl)
@[simp] def Of:dM fa env st=(fa env st).bind xb:=(rfl)
@[simp] def Og (i:Int):xb (.int i) st=.ok (some i) st:=(rfl)
@[simp] def Oh:zq m fs env st=(fs env st).bind m:=(rfl)
@[simp] def X8 (C:Int->Int->Bool) (f:Int->Int->Int) (i j:Int):opI C f (.int i) (.int j) st=if C i j=true then .ok (.int (f i j)) st else .stuck:=(rfl)
@[simp] def X9 (f:Int->Int->Bool) (i j:Int):su f (.int i) (.int j) st=.ok (.bl (f i j)) st:=(rfl)
@[simp] def X_ (i:Int):nL (.int i) st=.ok (.int (-i)) st:=(rfl)
@[simp] def Ya (i j:Int):yH (.int i) (.int j) st=.ok (.int (i+j)) st:=(rfl)
@[simp] def Oi (x y:Str):yH (.str x) (.str y) st=if x.length+y.length<=lim then .ok (.str (x++y)) st else .stuck:=(rfl)
@[simp] def Yb (x:PV):bP (some x) st=.ok x st:=(rfl)
@[simp] def Oj (xs:An) (l u:Option Int):pO (.frl xs) l u st=.ok (.ref st.length) (st++[.lst (dA xs l u)]):=(rfl)
@[simp] def Ol (n:Nat):pP [.ref n] st=yl st n λxs=>.ok (.int xs.length) st:=(rfl)
@[simp] def Yc (x y:PV):ya x y st=if plain x=true/\plain y=true/\dep x<=150 then .ok (.bl (bz x y)) st else .stuck:=(rfl)
@[simp] def Yd (x y:PV):jN x y st=if plain x=true/\plain y=true/\dep x<=150 then .ok (.bl (!bz x y)) st else .stuck:=(rfl)
@[simp] def Om:zX env st=.ok (.nx env) st:=(rfl)
@[simp] def Dy:zu g g' env st=(g env st).bind (gq g'):=(rfl)
@[simp] def Oo:gq g (.nx env) st=g env st:=(rfl)
@[simp] def Oq (x:PV):gq g (.rt x) st=.ok (.rt x) st:=(rfl)
@[simp] def Ot (i:Nat):zJ i fa env st=(fa env st).bind λx ae=>.ok (.nx (env.set i (some x))) ae:=(rfl)
@[simp] def Ou:jb fa env st=(fa env st).bind λ_ ae=>.ok (.nx env) ae:=(rfl)
@[simp] def Ov:zP fa env st=(fa env st).bind λx ae=>.ok (.rt x) ae:=(rfl)
@[simp] def Dz:zT ga g g' env st=(ga env st).bind λc ae=>if c=true then g env ae else g' env ae:=(rfl)
@[simp] def Ow (i j:Nat) (x y:PV):g2 i j (.tup [x,y]) env=some ((env.set i (some x)).set j (some y)):=(rfl)
@[simp] def Ox (x:PV):endOf (.rt x) st=.ok x st:=(rfl)
@[simp] def Ye (e:zd):endOf (.nx e) st=.ok .non st:=(rfl)
@[simp] def wv:yD fa env st=(fa env st).bind mf:=(rfl)
@[simp] def sR (n:Nat):mf (.ref n) st=yl st n λ_=>.ok (.rf n) st:=(rfl)
@[simp] def Oy:nR fs env st=(fs env st).bind pW:=(rfl)
@[simp] def Yf (xs ys:An):pW [.tup xs,.tup ys] st=.ok (.im (wb xs ys)) st:=(rfl)
@[simp] def pX (src:zd->Mo Sq) (gt:PV->zd->Option zd):jf src gt g env st=(src env st).bind λq ae=>pV gt g q env ae:=(rfl)
@[simp] def Yg (gt:PV->zd->Option zd) (xs:An):pV gt g (.im xs) env st=forL gt g xs env st:=(rfl)
@[simp] def Yh (x:Str):Mi.plain (.str x)=true:=(rfl)
@[simp] def Yi (x:PV) (xs:An):bE (x::xs)=(Mi.plain x&&bE xs):=(rfl)
@[simp] def Yj (x:Str):dep (.str x)=0:=(rfl)
@[simp] def Yk (x:PV) (xs:An):cZ (x::xs)=max (dep x) (cZ xs):=(rfl)
@[simp] def Yl (a b:Str):bz (.str a) (.str b)=(a==b):=(rfl)
@[simp] def j0 (a:α):bG (Res.ok a st)=.ok a st:=(rfl)
@[simp] def Ym:gd .non=true:=(rfl)
def yz {n:Nat}{xs:An}(h:st[n]?=some (.lst xs)) (k:List PV->Res α):yl st n k=k xs:=by unfold yl;rw [h]
def mh {n:Nat}{c:Str}{ks:Ad}{xs:An}(h:st[n]?=some (.ins c ks xs)) (k:Str->List Str->List PV->Res α):yV st n k=k c ks xs:=by unfold yV;rw [h]
@[simp] def DA (f:Str) (i x:Str->Bool) (n:Nat):aS f i x (.ref n) st=yV st n λc ks xs=>if i c=true then bP ((ks.zip xs).lookup f) st else .stuck:=(rfl)
@[simp] def Yn (ks:Ad) (ps:An) (z:Str):kM ks ps (.str z) st=bP ((ks.zip ps).lookup z) st:=(rfl)
@[simp] def Yo (tab:Str->Option (Al)):xg tab fa fs env st=(fa env st).bind λf ae=>match f with | .fn x=>(match tab x with|some m=>(fs env ae).bind m|none=>.stuck)|_=>.stuck:=(rfl)
@[simp] def Oz (f:Str) (i:Str->Bool):Mi.sFld f i fo fv env st=(fv env st).bind λx ae=>(fo env ae).bind λo aA=>(putAt f i x o aA).bind λ_ a0=>.ok (.nx env) a0:=(rfl)
@[simp] def OA:jh op fo fv env st=(fo env st).bind λo ae=>(kN o ae).bind λo ae=>(fv env ae).bind λy aA=>op o y aA:=(rfl)
@[simp] def OB (n:Nat):kN (.ref n) st=yl st n λ_=>.ok (.ref n) st:=(rfl)
@[simp] def Yp (a b:String):(Str.ofString a=Str.ofString b)↔a=b:=by
 constructor
 ·intro h
  rw [Str.ofString_eq_byList] at h
  have h1:(a.toList.map Char.toNat)=(b.toList.map Char.toNat):=by
   have:=congrArg (λz=>z.cps.toList) h
   simpa [Str.ofStringByList] using this
  apply String.ext_iff.mpr
  exact (List.map_inj_right (λc d e=>Char.toNat_inj.mp e)).mp h1
 ·intro h;rw [h]
@[simp] def Yq (a b:String):(Str.ofString a==Str.ofString b)=(a==b):=by
 rw [Bool.eq_iff_iff];simp
def DB (n:Nat):cg ga g (n+1) env st=(ga env st).bind λc ae=>if c=true then (g env ae).bind λfl aA=>match fl with
   | .nx e=>cg ga g n e aA
   | .ct e=>cg ga g n e aA
   | .bk e=>.ok (.nx e) aA
   | .rt v=>.ok (.rt v) aA
  else .ok (.nx env) ae:=rfl
@[simp] def OC:lim=1000000:=(rfl)
@[simp] def Yr (f:Str) (i:Str->Bool) (x:PV) (n:Nat):Mi.putAt f i x (.ref n) st=yV st n λc ks xs=>if i c=true/\ks.length<1000 then .ok () (st.set n (.ins c (putK f x ks xs).1 (putK f x ks xs).2)) else .stuck:=(rfl)
end
section
variable {K:Frag}{mg:Ab}{h:Heap}{x:Str}{f C:Addr}{oc:Value}{od an:Option Addr}{fy:Array (Option Value)}{kV doc pm aX ct:Value}{sm:Stmt}{ps:Ad}
def zcf (X:K.In h) (G:h.Ns mainGlobals mg) (a:nsIn K mainGlobals x=some (some (.ref f))) (l:K.lookup f=some ⟨oc,od,.func (fnOf x x (j6 sm) (jo sm) (zF sm) .none kV doc pm an aX ct),fy⟩) (c:codeIn K aX x=true) (k:keepIn K (.ref f)=true)
  (b:∀(kV doc pm:Value) (an:Option Addr) (aX ct:Value) (us:Af),us.length=ps.length->bindArgs (fnOf x x (j6 sm) (jo sm) (zF sm) .none kV doc pm an aX ct) ⟨us,[]⟩=pure (ps.zip us)):FnF K mg x sm ps :=
 ⟨f,_,mg_of X G a,kj l c k,(kj l c k).binds b⟩
def wE {c name qual:Str} (X:K.In h) (G:h.Ns mainGlobals mg) (aC:nsIn K mainGlobals c=some (some (.ref C))) (pg:plainGet K C Str.empty=true) (hd:hasDictIn K C=true) (po:plainOver K C=true) (sa:findIn K (.ref C) "__setattr__" = some (some (.builtin "object.__setattr__")))
  (a:findIn K (.ref C) name=some (some (.ref f))) (i:isFn K (.ref f)=true) (l:K.lookup f=some ⟨oc,od,.func (fnOf name qual (j6 sm) (jo sm) (zF sm) .none kV doc pm an aX ct),fy⟩) (cd:codeIn K aX qual=true) (k:keepIn K (.ref f)=true)
  (b:∀(kV doc pm:Value) (an:Option Addr) (aX ct:Value) (us:Af),us.length=ps.length->bindArgs (fnOf name qual (j6 sm) (jo sm) (zF sm) .none kV doc pm an aX ct) ⟨us,[]⟩=pure (ps.zip us)):MtF K mg c name qual sm ps :=
 ⟨C,f,_,mg_of X G aC,⟨pg,hd,po,sa⟩,⟨a,i,k⟩,kj l cd k,(kj l cd k).binds b⟩
def zby {c qual:Str}(X:K.In h) (G:h.Ns mainGlobals mg) (aC:nsIn K mainGlobals c=some (some (.ref C))) (mk:makesIn K C=true) (kc:keepIn K (.ref C)=true)
  (a:findIn K (.ref C) "__init__" = some (some (.ref f))) (i:isFn K (.ref f)=true) (l:K.lookup f=some ⟨oc,od,.func (fnOf "__init__" qual (j6 sm) (jo sm) (zF sm) .none kV doc pm an aX ct),fy⟩) (cd:codeIn K aX qual=true) (k:keepIn K (.ref f)=true)
  (b:∀(kV doc pm:Value) (an:Option Addr) (aX ct:Value) (us:Af),us.length=ps.length->bindArgs (fnOf "__init__" qual (j6 sm) (jo sm) (zF sm) .none kV doc pm an aX ct) ⟨us,[]⟩=pure (ps.zip us)):NwF K mg c qual sm ps :=
 ⟨C,f,_,mg_of X G aC,⟨mk,a,i,kc⟩,kj l cd k,(kj l cd k).binds b⟩
def OD {cd:ClassData}(h:clsIn K C=some cd) (v:fL cd.mro=true):iE K C=true:=by unfold iE;rw [h];exact v
def zp1 {c fld qual:Str}{B N:Addr}{nm q:Str}{bs:Af}{dj:Bool}{sn:Ad}{sub:Af}{ab:Bool}{col:Option Bool}{dd:Option Addr}{k0 k1 k2 k3 k5:Option Value}{cc:Value}{d:Option Addr}{es:Array DictEntry}{n:Nat}{sl:Array (Option Value)}{DC:ClassData}
  (X:K.In h) (G:h.Ns mainGlobals mg) (aC:nsIn K mainGlobals c=some (some (.ref C)))
  (hC:K.lookup C=some (excClassObj nm q C N bs (.ref B::dk) dj sn sub ab col dd k0 k1 k2 k3 k5 "ValueError.__new__")) (hB:excIn K B dk "ValueError.__new__" = true)
  (hN:K.lookup N=some ⟨cc,d,.dict es n,sl⟩) (he:(es.all λe=>match e.key with | .str _ _=>true|_=>false)=true) (hi:nsIn K N "__init__" = some (some (.ref f))) (fn:isFn K (.ref f)=true) (kp:keepIn K (.ref C)=true)
  (sa:findIn K (.ref C) "__setattr__" = some (some (.builtin "object.__setattr__"))) (hcl:clsIn K C=some DC) (hl:fL DC.mro=true) (no:takerIn K C fld=some none) (OE:hasDictIn K C=true)
  (l:K.lookup f=some ⟨oc,od,.func (fnOf "__init__" qual (j6 sm) (jo sm) (zF sm) .none kV doc pm an aX ct),fy⟩) (DD:codeIn K aX qual=true) (k:keepIn K (.ref f)=true)
  (b:∀(kV doc pm:Value) (an:Option Addr) (aX ct:Value) (us:Af),us.length=[("self" : Str),fld].length->bindArgs (fnOf "__init__" qual (j6 sm) (jo sm) (zF sm) .none kV doc pm an aX ct) ⟨us,[]⟩=pure ([("self" : Str),fld].zip us)):XnF K mg c fld qual sm :=
 ⟨C,f,_,mg_of X G aC,gF.mk' hC hB hN he hi fn kp,⟨sa,OD hcl hl,no,OE⟩,kj l DD k,(kj l DD k).binds b⟩
def zN {c fld:Str} (X:K.In h) (G:h.Ns mainGlobals mg) (aC:nsIn K mainGlobals c=some (some (.ref C))) (pg:plainGet K C Str.empty=true) (hd:hasDictIn K C=true) (po:plainOver K C=true) (sa:findIn K (.ref C) "__setattr__" = some (some (.builtin "object.__setattr__"))) (na:findIn K (.ref C) fld=some none) :
  ∃C,mg c=some (.ref C)/\fw K C/\dh K C fld:=⟨C,mg_of X G aC,⟨pg,hd,po,sa⟩,na⟩
def wc {c fld:Str} (X:K.In h) (G:h.Ns mainGlobals mg) (aC:nsIn K mainGlobals c=some (some (.ref C))) (ga:findIn K (.ref C) "__getattribute__" = some (some (.builtin "BaseException.__getattribute__"))) (hk:findIn K (.ref C) "__getattr__" = some none) (hB:mroIn K C (.type "BaseException")=some true)
  (hd:hasDictIn K C=true) (no:findIn K (.ref C) fld=some none):∃C,mg c=some (.ref C)/\gH K C/\hasDictIn K C=true/\findIn K (.ref C) fld=some none:=⟨C,mg_of X G aC,⟨ga,hk,hB⟩,hd,no⟩
def zp2 {α:Type}{P:α->Prop}:∀p∈([]:List α),P p:=λ_ h=>nomatch h
def all_cons {α:Type}{P:α->Prop}{a:α}{l:List α}(h:P a) (t:∀p∈l,P p):∀p∈a::l,P p:=λp hp=>by
 rcases yF.mp hp with rfl|hp
 ·exact h
 ·exact t p hp
theorem DE {α β:Type} [BEq α] [LawfulBEq α] {a:α}{b:β}:∀{l:List (α×β)},l.lookup a=some b->(a,b)∈l
 | [],h=>by simp at h
 | (c,d)::l,h=>by
  rw [yO] at h
  split at h
  ·rename_i e;cases h;rw [eq_of_beq e];simp
  ·exact jq _ (DE h)
def zdq {O t t2:Addr} {wd k1 k2 y:Str} {u1 u2:Tok} {n n2:Nat} {OG:Option Addr} {sl iq:Array (Option Value)} (X:K.In h) (G:h.Ns mainGlobals mg) (e:nsIn K O wd=some (some (.ref t))) (l1:K.lookup t=some ⟨.type "tuple", od,.seq #[.ref t2,.ref f] n,sl⟩)
  (l2:K.lookup t2=some ⟨.type "tuple", OG,.seq #[.str k1 u1,.str k2 u2] n2,iq⟩) (a:nsIn K mainGlobals y=some (some (.ref f))):∃u v,nsIn K O wd=some (some u)/\RelV v u/\∀ρ H,R K mg ρ H (.tup [.tup [.str k1,.str k2],.fn y]) v:=by
 refine ⟨_,.ref t,e,rfl,Ds (xs:=[.tup [.str k1,.str k2],.fn y]) (vs:=[.ref t2,.ref f]) l1 rfl (by simp) (.cons rfl (.cons rfl .nil)) fun ρ H=>?_⟩
 exact ⟨_,_,rfl,Ds (xs:=[.str k1,.str k2]) (vs:=[.str k1,.str k2]) l2 rfl (by simp) (.cons ⟨_,rfl⟩ (.cons ⟨_,rfl⟩ .nil)) (fun ρ H=>⟨_,_,rfl,rfl,_,_,rfl,rfl,rfl⟩) ρ H,_,_,rfl,⟨f,rfl,mg_of X G a⟩,rfl⟩
def zp3 {w:World} {name:Str} {O:Addr} {es:Array DictEntry} {n:Nat} {ks:Ad} {qs:An} (X:K.In h) (G:h.Ns mainGlobals mg) (aO:nsIn K mainGlobals name=some (some (.ref O))) (lO:K.lookup O=some ⟨.type "dict", none,.dict es n,#[]⟩) (hk:KeysLit w.params es.toList) (no:(O==sysModules)=false)
  (hi:∀p∈ks.zip qs,∃u v,nsIn K O p.1=some (some u)/\RelV v u/\∀ρ H,R K mg ρ H p.2 v):∀Y:Cx,Y.K=K->Y.mg=mg->Y.w=w->KdF Y name ks qs false:=λY e1 e2 e3=>by
 refine ⟨O,by rw [e2];exact mg_of X G aO,⟨⟨es,n,by rw [e1];exact lO,by rw [e3];exact hk⟩,no⟩,λz q hz=>?_,λz=>nomatch z⟩
 rw [e1,e2]
 exact hi _ (DE hz)
end
def zp4 {P:Program}{w:World}{K:Frag}{mg:Ab}{x y:Str}{sm:Stmt}{fa:Addr}{k:Nat}{m:Al}(h:FnF K mg x sm [y]) (hmg:mg x=some (.ref fa))
  (hb:∀(kV doc pm:Value) (an:Option Addr) (aX ct:Value) (u:Value),bindArgs (fnOf x x (j6 sm) (jo sm) (zF sm) .none kV doc pm an aX ct) ⟨[u],[]⟩=pure [(y,u)])
  (hok:∀(f:Addr) (fd:FuncData),dZ K x x sm f fd->∀base:Heap,br P w K mg base (cj P w) k f fd [y] (g0 K mg m)) (hp:∀ns:List Int,ns.length<=63->∃st,m [.frl (ns.map PV.int)] []=.ok (.bl true) st) :
  ∃fd:FuncData,(∀(s:Shared) (u:Value),BindsTo s fd ⟨[u],[]⟩ [(y,u)])/\∀base:Heap,K.In base->base.Ns mainGlobals mg->br P w K mg base (cj P w) k fa fd [y] (iN K):=by
 obtain ⟨f,fd,hm,F,_⟩:=h
 rw [hmg] at hm
 cases hm
 refine ⟨fd,λs u=>?_,λbase _ _=>N5 (hok fa fd F base) hp⟩
 obtain ⟨oc,od,kV,doc,pm,an,aX,ct,fy,rfl,_⟩:=F.ex
 exact .of_eq (hb kV doc pm an aX ct u)
def zh1 {K:Frag}{mg:Ab}{h:Heap}{x:Str}{i:Int}{t:Tok}(X:K.In h) (G:h.Ns mainGlobals mg) (a:nsIn K mainGlobals x=some (some (.int i t))):∃t,mg x=some (.int i t):=⟨t,mg_of X G a⟩
def zp5 {K:Frag}{mg:Ab}{h:Heap}{x:Str}(X:K.In h) (G:h.Ns mainGlobals mg) (a:nsIn K mainGlobals x=some none):mg x=none:=mg_none_of X G a
section
variable {X:Cx}{Er:XK}{K:Frag}{mg:Ab}{a b c e o:Expr}{es:List Expr}{pos p apos pos':Pos}{fa fb fc fo:Ai}{fs:Ah}
abbrev kz (ks:Ad) (vs:List V):List (Key×V):=(ks.map Sum.inr).zip vs
theorem xt {z:Str}:∀{ks:Ad}{vs:List V},cX (kz ks vs) (Sum.inr z)=(ks.zip vs).lookup z
 | [],_=>by simp [kz,cX]
 | k::ks,[]=>by simp [kz,cX]
 | k::ks,v::vs=>by
  have ih:=xt (z:=z) (ks:=ks) (vs:=vs)
  by_cases h:k=z
  ·subst h
   rw [show kz (k::ks) (v::vs)=(Sum.inr k,v)::kz ks vs from rfl,rS rfl]
   simp [yO]
  ·rw [show kz (k::ks) (v::vs)=(Sum.inr k,v)::kz ks vs from rfl,rT (by simpa using h),ih]
   have:(z==k)=false:=by simpa using λq=>h q.symm
   simp [yO,this]
theorem DF {z:Str}:∀{ks:Ad}{vs:List V},ks.length=vs.length->((kz ks vs).any λkv=>decide (kv.1=Sum.inr z))=ks.contains z
 | [],_,_=>by simp [kz]
 | k::ks,[],h=>by simp at h
 | k::ks,v::vs,h=>by
  have ih:=DF (z:=z) (ks:=ks) (vs:=vs) (by simpa using h)
  rw [show kz (k::ks) (v::vs)=(Sum.inr k,v)::kz ks vs from rfl,List.any_cons,ih,List.contains_cons]
  congr 1
  by_cases hz:k=z
  ·subst hz;simp
  ·have:(z==k)=false:=by simpa using λq=>hz q.symm
   simp [hz,this]
def repl {α:Type}(z:Str) (x:α):List Str->List α->List α
 | k::ks,y::ys=>(if k=z then x else y)::repl z x ks ys
 | _,ys=>ys
def jT (z:Str) (x:PV) (ks:Ad) (xs:An):List Str×List PV:=if ks.contains z=true then (ks,repl z x ks xs) else (ks++[z],xs++[x])
theorem DG {z:Str}{v:V}:∀{ks:Ad}{vs:List V},(kz ks vs).map (λkv=>if kv.1=Sum.inr z then (kv.1,v) else kv)=kz ks (repl z v ks vs)
 | [],_=>by simp [kz]
 | k::ks,[]=>by simp [kz,repl]
 | k::ks,w::vs=>by
  rw [show kz (k::ks) (w::vs)=(Sum.inr k,w)::kz ks vs from rfl,yJ,DG,show repl z v (k::ks) (w::vs)=(if k=z then v else w)::repl z v ks vs from rfl,show ∀u us,kz (k::ks) (u::us)=(Sum.inr k,u)::kz ks us from λ_ _=>rfl]
  by_cases h:k=z
  ·subst h;simp
  ·rw [zH (by simpa using h),zH h]
theorem DH {ρ:Ae}{H:Hp}{z:Str}{x:PV}{v:V}(r:R K mg ρ H x v):∀{ks:Ad}{xs:An}{vs:List V},Rs K mg ρ H xs vs->Rs K mg ρ H (repl z x ks xs) (repl z v ks vs)
 | [],xs,vs,h=>by cases xs<;>cases vs<;>exact h
 | k::ks,[],vs,h=>by cases h;exact rfl
 | k::ks,y::ys,vs,h=>by
  obtain ⟨w,ws,rfl,h1,h2⟩:=h
  refine ⟨_,_,rfl,?_,DH r h2⟩
  split
  ·exact r
  ·exact h1
theorem DI {α:Type}{z:Str}{x:α}:∀{ks:Ad}{xs:List α},(repl z x ks xs).length=xs.length
 | [],xs=>by cases xs<;>rfl
 | k::ks,[]=>rfl
 | k::ks,y::ys=>by simp [repl,DI (ks:=ks)]
def xv {ρ:Ae}{H:Hp}{z:Str}{x:PV}{v:V}(r:R K mg ρ H x v) {ks:Ad}{xs:An}{vs:List V}(hl:ks.length=vs.length) (h:Rs K mg ρ H xs vs):∃ws,L2.putK (kz ks vs) (Sum.inr z) v=kz (jT z x ks xs).1 ws/\Rs K mg ρ H (jT z x ks xs).2 ws/\(jT z x ks xs).1.length=ws.length:=by
 unfold L2.putK jT
 rw [DF hl]
 by_cases hc:ks.contains z=true
 ·rw [zx hc,zx hc]
  exact ⟨repl z v ks vs,DG,DH r h,by rw [DI];exact hl⟩
 ·rw [zH hc,zH hc]
  refine ⟨vs++[v],?_,h.append ⟨v,[],rfl,r,rfl⟩,by simp [hl]⟩
  show _=(List.map Sum.inr (ks++[z])).zip (vs++[v])
  rw [wL,List.zip_append (by simpa using hl)]
  rfl
def kO:Ai:=λ_ st=>.ok (.ref st.length) (st++[.dic [] []])
def za3:ME X Er (.Dict [] [] pos) kO:=PE.weak LM λU H Q ⟨env,st,ρ,re,rs,h⟩=>λq hq =>
 h (ρ++[q]) _ (Ext.push hq) (rs.push hq ⟨[],y0,rfl,rfl⟩) _ ⟨q,rfl,by rw [<-rs.len];simp⟩
def OH:Am
 | .ref n,.str z,st=>ja st n λks xs=>bP ((ks.zip xs).lookup z) st
 | _,_,_=>.stuck
def zm:Am
 | .ref n,.str z,st=>OH (.ref n) (.str z) st
 | x,y,st=>vZ x y st
def OI:R2:=λx y H Q=>∃a v,x=.ref a/\dS H a y (some v)/\Q v H
def OJ (hu:X.A.units+1<cLine):fI X OI:=by
 intro value slice pins s U H x y v u Q I rx ry h hs
 obtain ⟨a,w,rfl,g,q⟩:=h
 obtain rfl:v=Value.ref a:=rx
 exact PyProof.Rows.tail_any (LG I g) PySem.F.slot_dict_getitem.lookup (Lz hu I g ry λw' s' I' dn=>⟨w,H,I',dn,q⟩) hs
def R.refD {ρ:Ae}{H:Hp}{st:aa}{n:Nat}{ks:Ad}{xs:An}{v:V}(s:a7 K mg ρ H st) (r:R K mg ρ H (.ref n) v) (h:st[n]?=some (.dic ks xs)):∃a vs,v=.ref a/\ρ[n]?=some a/\H a=some (.dK (kz ks vs))/\Rs K mg ρ H xs vs/\ks.length=vs.length:=by
 obtain ⟨a,rfl,ha⟩:=r
 obtain ⟨vs,h1,h2,h3⟩:=s.addr h ha
 exact ⟨a,vs,rfl,ha,h1,h2,h3⟩
def DJ {H:Hp}{a:Addr}{ks:Ad}{vs:List V}{z:Str}(h:H a=some (.dK (kz ks vs))):dS H a (.str z) ((ks.zip vs).lookup z):=by
 have g:=dS.k (k:=Sum.inr z) h
 rw [xt] at g
 exact g
theorem zE (hu:X.A.units+200<cLine):kE X zm:=by
 obtain ⟨r,h1,h2⟩:=Nd (X:=X)
 refine ⟨_,h1.or (OJ (by omega)),fun ρ H st x y v w Q E s rx ry h=>?_⟩
 by_cases hx:∃n z,x=.ref n/\y=.str z
 ·obtain ⟨n,z,rfl,rfl⟩:=hx
  obtain ⟨ks,xs,e,h⟩:=MR (show Out X.K X.mg ρ H (ja st n λks xs=>bP ((ks.zip xs).lookup z) st) (gV X.K X.mg Q) E from h)
  obtain ⟨q,hq,h⟩:=kJ h
  obtain ⟨a,vs,rfl,_,k1,k2,_⟩:=R.refD s rx e
  cases ry
  obtain ⟨v,hv,rv⟩:=nO k2 hq
  refine .inr ⟨a,v,rfl,?_,h.now s _ rv⟩
  have g:=DJ (z:=z) k1
  rw [hv] at g
  exact g
 ·refine .inl (h2 ρ H st x y v w Q E s rx ry ?_)
  have:zm x y st=vZ x y st:=by
   unfold zm
   split
   ·rename_i n z;exact absurd ⟨n,z,rfl,rfl⟩ hx
   ·rfl
  rw [this] at h
  exact h
def jG (z x:PV):PV->Mo Unit
 | .ref n,st=>match z with
  | .str z=>ja st n λks xs=>if ks.length<lim then .ok () (st.set n (.dic (jT z x ks xs).1 (jT z x ks xs).2)) else .stuck
  | _=>.stuck
 | _,_=>.stuck
def jD (fo fi fv:Ai):Aj:=λenv st=>(fv env st).bind λx ae=>(fo env ae).bind λo aA=>(fi env aA).bind λz a0=>(jG z x o a0).bind λ_ cY=>.ok (.nx env) cY
theorem zaG {i value:Expr}{fi fv:Ai}(hu:X.A.units+200<cLine) (ho:ME X Er o fo) (hi:ME X Er i fi) (hv:ME X Er value fv) (hs:swapsWith value (some (.Subscript o i pos')) pos.line X.env=pure false:=by rfl):MS X Er (.Assign [.Subscript o i pos'] value pos) (jD fo fi fv) :=
 PS.weak (LI (by omega) ho hi hv hs) λD U H ⟨env,st,ρ,re,rs,h⟩=>⟨env,st,ρ,re,rs,h.then λag H1 x ae e1 s1 h1 v rv=>⟨env,ae,ag,re.ext e1,s1,h1.then λaq H2 y aA e2 s2 h2 w rw=>⟨env,aA,aq,(re.ext e1).ext e2,s2,h2.then λak H3 zz a0 e3 s3 h3 u ru=>by
  cases y with
  | ref n =>
   cases zz with
   | str z =>
    cases hn:a0[n]? with
    | none=>simp only [jG,ja,hn] at h3;exact h3.elim
    | some so =>
     cases so with
     | lst _=>simp only [jG,ja,hn] at h3;exact h3.elim
     | ins _ _ _=>simp only [jG,ja,hn] at h3;exact h3.elim
     | fdi _ _=>simp only [jG,ja,hn] at h3;exact h3.elim
     | dit _ _=>simp only [jG,ja,hn] at h3;exact h3.elim
     | dic ks xs =>
      simp only [jG,ja,hn] at h3
      by_cases hc:ks.length<lim
      ·rw [zx hc] at h3
       obtain ⟨a,vs,e4,ha,k1,k2,k3⟩:=R.refD s3 (R.ext e3 _ rw) hn
       subst e4
       cases ru
       obtain ⟨ws,q1,q2,q3⟩:=xv (z:=z) (R.ext e3 x (R.ext e2 x rv)) k3 k2
       have hlen:(kz ks vs).length<sizeLine:=by
        have:(kz ks vs).length=ks.length:=by simp [kz,k3]
        rw [this,sizeLine_eq]
        have:ks.length<1000000:=hc
        omega
       have g:=dU.k (k:=Sum.inr z) (v:=v) k1 hlen
       have ew:Ext ak H3 ak (upd H3 a (.dK (L2.putK (kz ks vs) (Sum.inr z) v))):=Ext.write k1 rfl
       refine ⟨a,_,rfl,g,h3 ak _ ew (s3.write ha ew ⟨ws,by rw [y0,q1],Rs.ext ew _ q2,q3⟩) U ((((re.ext e1).ext e2).ext e3).ext ew)⟩
      ·rw [zH hc] at h3;exact h3.elim
   | _=>exact h3.elim
  | _=>exact h3.elim⟩⟩⟩
end
open Classical in
noncomputable def dB (K:Frag) (mg:Ab) (ρ:Ae) (H:Hp) (ys:An) (x:PV) (u:Value):Bool:=decide (∃y v,y∈ys/\R K mg ρ H y v/\RelV v u/\bz y x=true)
section
variable {X:Cx}{Er:XK}{K:Frag}{mg:Ab}{ρ:Ae}{pins:Ac}{U:L2.St}{H:Hp}{s:Shared}
def okIn (x:PV) (ys:An):Prop:=Mi.plain x=true/\bE ys=true/\cZ ys<=150
instance (x:PV) (ys:An):Decidable (okIn x ys):=by unfold okIn;infer_instance
theorem Rs.mem:∀{xs:An}{vs:List V}{us:Af}{u:Value},Rs K mg ρ H xs vs->Vals vs us->u∈us->∃y v,y∈xs/\R K mg ρ H y v/\RelV v u
 | [],_,_,_,h,hv,hu=>by cases h;cases hv;cases hu
 | x::xs,_,_,u,h,hv,hu=>by
  obtain ⟨v,r,rfl,h1,h2⟩:=h
  cases hv with
  | cons r1 r2 =>
   rcases yF.mp hu with rfl|hu
   ·exact ⟨x,v,by simp,h1,r1⟩
   ·obtain ⟨y,w,q1,q2,q3⟩:=Rs.mem h2 r2 hu
    exact ⟨y,w,by simp [q1],q2,q3⟩
theorem Rs.mem':∀{xs:An}{vs:List V}{us:Af}{y:PV},Rs K mg ρ H xs vs->Vals vs us->y∈xs->∃u v,u∈us/\R K mg ρ H y v/\RelV v u
 | [],_,_,_,_,_,hy=>by cases hy
 | x::xs,_,_,y,h,hv,hy=>by
  obtain ⟨v,r,rfl,h1,h2⟩:=h
  cases hv with
  | cons r1 r2 =>
   rcases yF.mp hy with rfl|hy
   ·exact ⟨_,v,by simp,h1,r1⟩
   ·obtain ⟨u,w,q1,q2,q3⟩:=Rs.mem' h2 r2 hy
    exact ⟨u,w,by simp [q1],q2,q3⟩
def OK {ys:An}{y:PV}(h:bE ys=true) (hy:y∈ys):Mi.plain y=true:=by
 obtain ⟨i,hi⟩:=List.getElem?_of_mem hy
 exact sv h hi
def OL {ys:An}{y:PV}(hy:y∈ys):dep y<=cZ ys:=by
 obtain ⟨i,hi⟩:=List.getElem?_of_mem hy
 exact v5 hi
open Classical in
theorem sS (I:Inv X pins U H s) {A:Around}(hu:A.units+200<cLine) {ys:An}{vs:List V}{us:Af}{x:PV}{w:V}{v:Value}(ok:okIn x ys) (ry:Rs X.K mg ρ H ys vs) (rv:Vals vs us) (rx:R X.K mg ρ H x w) (rw:RelV w v) :
  (∀u∈us,SeqAt.EqAt A.in1 s u v (dB X.K mg ρ H ys x u))/\us.any (dB X.K mg ρ H ys x)=ys.any λy=>bz y x:=by
 obtain ⟨px,py,hd⟩:=ok
 have one:∀y v' u,y∈ys->R X.K mg ρ H y v'->RelV v' u->SeqAt.EqAt A.in1 s u v (bz y x):=λy v' u hy r1 r2 =>
  (v7 I 150 y x A.in1 (y4 (OL hy) hd) (OK py hy) px r1 rx r2 rw (by rw [sx];omega)).1
 refine ⟨λu DK=>?_,?_⟩
 ·obtain ⟨y,v',q1,q2,q3⟩:=Rs.mem ry rv DK
  by_cases h:∃y v,y∈ys/\R X.K mg ρ H y v/\RelV v u/\bz y x=true
  ·have e:dB X.K mg ρ H ys x u=true:=by simpa [dB] using h
   obtain ⟨y2,v2,z1,z2,z3,z4⟩:=h
   rw [e,<-z4]
   exact one y2 v2 u z1 z2 z3
  ·have e:dB X.K mg ρ H ys x u=false:=by unfold dB;exact jr h
   rw [e]
   have:bz y x=false:=by
    cases hq:bz y x with
    | false=>rfl
    | true=>exact absurd ⟨y,v',q1,q2,q3,hq⟩ h
   rw [<-this]
   exact one y v' u q1 q2 q3
 ·rw [Bool.eq_iff_iff]
  simp only [List.any_eq_true]
  constructor
  ·rintro ⟨u,DK,he⟩
   have h:∃y v,y∈ys/\R X.K mg ρ H y v/\RelV v u/\bz y x=true:=by unfold dB at he;exact of_decide_eq_true he
   obtain ⟨y,v',z1,_,_,z4⟩:=h
   exact ⟨y,z1,z4⟩
  ·rintro ⟨y,hy,he⟩
   obtain ⟨u,v',q1,q2,q3⟩:=Rs.mem' ry rv hy
   exact ⟨u,q1,by unfold dB;exact jJ ⟨y,v',hy,q2,q3,he⟩⟩
def yt (neg:Bool):Am
 | x,.tup ys,st=>if okIn x ys then .ok (.bl (neg.xor (ys.any λy=>bz y x))) st else .stuck
 | x,.frl ys,st=>if okIn x ys then .ok (.bl (neg.xor (ys.any λy=>bz y x))) st else .stuck
 | x,.ref n,st=>match st[n]?,x with
  | some (.lst ys),x=>if okIn x ys then .ok (.bl (neg.xor (ys.any λy=>bz y x))) st else .stuck
  | some (.dic ks xs),.str z=>.ok (.bl (neg.xor ((ks.zip xs).lookup z).isSome)) st
  | _,_=>.stuck
 | .str ⟨⟨[c]⟩⟩,.str z,st=>.ok (.bl (neg.xor (decide (c∈z.cps.toList)))) st
 | _,_,_=>.stuck
def xw (K:Frag) (mg:Ab) (neg:Bool):R2:=λv w H Q =>
 (∃ρ x ys vs p,okIn x ys/\w=.ref p/\(a6 K H p vs\/a9 K H p vs)/\Rs K mg ρ H ys vs/\R K mg ρ H x v/\Q (.bl (neg.xor (ys.any λy=>bz y x))) H) \/
 (∃p o,w=.ref p/\dS H p v o/\Q (.bl (neg.xor o.isSome)) H)\/∃(c:Nat) (z:Str),v=.str ⟨#[c]⟩/\w=.str z/\Q (.bl (neg.xor (decide (c∈z.cps.toList)))) H
def OM (hu:X.A.units+200<cLine):ba X (compareOp .In) (xw X.K X.mg false):=by
 intro pins s U H x y v u Q I rx ry h
 rcases h with ⟨ρ,a,ys,vs,p,ok,rfl,hq,pY,ra,q⟩|⟨p,o,rfl,g,q⟩|⟨c,z,rfl,rfl,q⟩
 ·obtain rfl:u=Value.ref p:=ry
  rcases hq with hq|hq
  ·obtain ⟨its,r,pl,_⟩:=I.list hq
   obtain ⟨f1,f2⟩:=sS I hu ok pY r ra rx
   refine SeqAt.in_listAt (dB X.K X.mg ρ H ys a) pl.isList (λw hw=>f1 w (by simpa using hw)) ⟨.bl _,H,I,rfl,?_⟩
   rw [show its.toArray.any (dB X.K X.mg ρ H ys a)=its.any (dB X.K X.mg ρ H ys a) by simp,f2]
   simpa using q
  ·obtain ⟨its,r,pl,_⟩:=I.tuple hq
   obtain ⟨f1,f2⟩:=sS I hu ok pY r ra rx
   refine SeqAt.in_tupleAt (dB X.K X.mg ρ H ys a) pl (λw hw=>f1 w (by simpa using hw)) ⟨.bl _,H,I,rfl,?_⟩
   rw [show its.toArray.any (dB X.K X.mg ρ H ys a)=its.any (dB X.K X.mg ρ H ys a) by simp,f2]
   simpa using q
 ·obtain rfl:u=Value.ref p:=ry
  exact LA (by omega) I g rx λs' I'=>⟨.bl o.isSome,H,I',rfl,by simpa using q⟩
 ·exact Lx pins s U H _ _ v u Q I rx ry ⟨c,z,rfl,rfl,by simpa using q⟩
def OO (hu:X.A.units+200<cLine):ba X (compareOp .NotIn) (xw X.K X.mg true):=by
 intro pins s U H x y v u Q I rx ry h
 rcases h with ⟨ρ,a,ys,vs,p,ok,rfl,hq,pY,ra,q⟩|⟨p,o,rfl,g,q⟩|⟨c,z,rfl,rfl,q⟩
 ·obtain rfl:u=Value.ref p:=ry
  rcases hq with hq|hq
  ·obtain ⟨its,r,pl,_⟩:=I.list hq
   obtain ⟨f1,f2⟩:=sS I hu ok pY r ra rx
   refine SeqAt.notIn_listAt (dB X.K X.mg ρ H ys a) pl.isList (λw hw=>f1 w (by simpa using hw)) ⟨.bl _,H,I,rfl,?_⟩
   rw [show its.toArray.any (dB X.K X.mg ρ H ys a)=its.any (dB X.K X.mg ρ H ys a) by simp,f2]
   simpa using q
  ·obtain ⟨its,r,pl,_⟩:=I.tuple hq
   obtain ⟨f1,f2⟩:=sS I hu ok pY r ra rx
   refine SeqAt.notIn_tupleAt (dB X.K X.mg ρ H ys a) pl (λw hw=>f1 w (by simpa using hw)) ⟨.bl _,H,I,rfl,?_⟩
   rw [show its.toArray.any (dB X.K X.mg ρ H ys a)=its.any (dB X.K X.mg ρ H ys a) by simp,f2]
   simpa using q
 ·obtain rfl:u=Value.ref p:=ry
  exact LB (by omega) I g rx λs' I'=>⟨.bl (!o.isSome),H,I',rfl,by simpa using q⟩
 ·refine L2.znt pins s U H _ _ v u Q I rx ry ⟨_,_,rfl,rfl,?_⟩
  rw [StrLaws.found_one]
  simpa using q
def DL {neg:Bool}:d5 K mg (xw K mg neg) (yt neg):=by
 intro ρ H st x y v w Q E s rx ry h
 cases y with
 | tup ys =>
  obtain ⟨p,vs,rfl,k1,k2⟩:=ry
  obtain ⟨ok,h⟩:=Out.ifp (show Out K mg ρ H (if okIn x ys then .ok (.bl (neg.xor (ys.any λy=>bz y x))) st else .stuck) (gV K mg Q) E from by cases x<;>exact h)
  exact .inl ⟨ρ,x,ys,vs,p,ok,rfl,.inr k1,k2,rx,h.now s _ rfl⟩
 | frl ys =>
  obtain ⟨p,vs,rfl,k1,k2⟩:=ry
  obtain ⟨ok,h⟩:=Out.ifp (show Out K mg ρ H (if okIn x ys then .ok (.bl (neg.xor (ys.any λy=>bz y x))) st else .stuck) (gV K mg Q) E from by cases x<;>exact h)
  exact .inl ⟨ρ,x,ys,vs,p,ok,rfl,.inl k1.sq,k2,rx,h.now s _ rfl⟩
 | ref n =>
  cases hn:st[n]? with
  | none=>exfalso;cases x<;>(simp only [yt,hn] at h;exact h)
  | some so =>
   cases so with
   | lst ys =>
    obtain ⟨p,vs,rfl,_,k1,k2⟩:=R.refL s ry hn
    obtain ⟨ok,h⟩:=Out.ifp (show Out K mg ρ H (if okIn x ys then .ok (.bl (neg.xor (ys.any λy=>bz y x))) st else .stuck) (gV K mg Q) E from by cases x<;>(simp only [yt,hn] at h;exact h))
    exact .inl ⟨ρ,x,ys,vs,p,ok,rfl,.inl (a6.of k1),k2,rx,h.now s _ rfl⟩
   | dic ks xs =>
    obtain ⟨p,vs,rfl,_,k1,k2,k3⟩:=R.refD s ry hn
    cases x with
    | str z =>
     simp only [yt,hn] at h
     cases rx
     refine .inr (.inl ⟨p,_,rfl,DJ k1,?_⟩)
     have e:((ks.zip vs).lookup z).isSome=((ks.zip xs).lookup z).isSome:=by
      cases hq:(ks.zip xs).lookup z with
      | some q=>obtain ⟨v,hv,_⟩:=nO k2 hq;rw [hv];rfl
      | none =>
       have:z∉ks:=by
        intro hz
        obtain ⟨i,hi⟩:=List.getElem?_of_mem hz
        have hl:i<xs.length:=by rw [k2.len,<-k3];exact (yv.mp hi).1
        have:=List.lookup_eq_none_iff.mp hq (z,xs[i]) (List.mem_iff_getElem?.mpr ⟨i,by simp [List.getElem?_zip_eq_some,hi,hl]⟩)
        simp at this
       rw [pQ this];rfl
     rw [e]
     exact h.now s _ rfl
    | _=>simp only [yt,hn] at h;exact h.elim
   | ins c ks xs=>exfalso;cases x<;>(simp only [yt,hn] at h;exact h)
   | fdi ks xs=>exfalso;cases x<;>(simp only [yt,hn] at h;exact h)
   | dit ks xs=>exfalso;cases x<;>(simp only [yt,hn] at h;exact h)
 | str z =>
  cases x with
  | str q =>
   obtain ⟨⟨l⟩⟩:=q
   match l,rx,h with
   | [c],rx,h=>cases rx;cases ry;exact .inr (.inr ⟨c,z,rfl,rfl,Out.now (x:=PV.bl _) h s _ rfl⟩)
   | [],rx,h=>exact h.elim
   | _::_::_,rx,h=>exact h.elim
  | _=>exact h.elim
 | non=>exfalso;cases x<;>exact h
 | bl _=>exfalso;cases x<;>exact h
 | int _=>exfalso;cases x<;>exact h
 | ty _=>exfalso;cases x<;>exact h
 | fn _=>exfalso;cases x<;>exact h
 | kd _ _=>exfalso;cases x<;>exact h
 | exo _ _ _=>exfalso;cases x<;>exact h
def za4 (hu:X.A.units+200<cLine):bJ X .In (yt false):=⟨_,OM hu,DL⟩
def zeY (hu:X.A.units+200<cLine):bJ X .NotIn (yt true):=⟨_,OO hu,DL⟩
abbrev wV:=opI c0 λi j=>Builtin.bitAnd i j
abbrev xx:=opI c0 λi j=>Builtin.bitOr i j
abbrev pZ:=opI eh λi j=>i*2 ^ j.toNat
abbrev kQ:Int->Int->Bool:=λ_ j=>decide (0<=j)
abbrev wW:=opI kQ λi j=>i/2 ^ j.toNat
def ze0:cN X .BitAnd wV:=⟨_,vW JQ,iJ λ_ _ _=>trivial⟩
def zqd:cN X .BitOr xx:=⟨_,vW JR,iJ λ_ _ _=>trivial⟩
def zh8:cN X .LShift pZ:=⟨_,JO,iJ λi j h=>by simp [eh] at h;exact ⟨h.1.1,h.1.2,h.2⟩⟩
def ze1:cN X .RShift wW:=⟨_,JP,iJ λi j h=>by simpa [kQ] using h⟩
end
section
variable {X:Cx}{Er:XK}{pos:Pos}
abbrev XN:XK:=λ_ _ _=>False
def wX:j7 X XN:=λ_ _ _ _ _ _ _ _ _ q=>q.elim
def cO (fe:Ai) (env:zd):List PV->Al
 | [],ys,st=>.ok (.ref st.length) (st++[.lst ys])
 | x::xs,ys,st=>(bG (fe (some x::env) st)).bind λy ae=>cO fe env xs (ys++[y]) ae
def fC (fe:Ai) (env:zd) (n:Nat):Nat->Nat->Al
 | 0,_,_,_=>.stuck
 | m+1,i,ys,st=>yl st n λxs=>match xs[i]? with
  | none=>.ok (.ref st.length) (st++[.lst ys])
  | some x=>(bG (fe (some x::env) st)).bind λy ae=>fC fe env n m (i+1) (ys++[y]) ae
def eB (fe:Ai) (env:zd):Sq->Mo PV
 | .im xs,st=>if xs.length<=lim then cO fe env xs [] st else .stuck
 | .rf n,st=>fC fe env n (lim+1) 0 [] st
def y8 (src:zd->Mo Sq) (fe:Ai):Ai:=λenv st=>(src env st).bind λq ae=>eB fe env q ae
theorem Rs.snoc {K:Frag}{mg:Ab}{ρ:Ae}{H:Hp}{x:PV}{v:V}(r:R K mg ρ H x v):∀{xs:An}{vs:List V},Rs K mg ρ H xs vs->Rs K mg ρ H (xs++[x]) (vs++[v])
 | [],_,h=>by cases h;exact ⟨v,[],rfl,r,rfl⟩
 | y::xs,_,h=>by
  obtain ⟨w,q,rfl,h1,h2⟩:=h
  exact ⟨w,q++[v],rfl,h1,Rs.snoc r h2⟩
theorem DM {elt iter:Expr} {x:Str} {px:Pos} {scope:Scope} {src:zd->Mo Sq} {fe:Ai} {M:Ad} (hc:X.calm=true) (S:di X.env.scope scope x) (eN:Hid scope M X.N) (cv:((".0" : Str)::x::M).Nodup)
  (hi:MI X Er (.Name x px) iter src) (he:∀cl C af ah fp,ME (km X M scope cl x C af ah fp (λ_ _=>False)) XN elt fe)
  (hs:∀v,foldedSetIterable iter X.env v=pure v:=by intro _;rfl):ME X Er (.ListComp elt [⟨.Name x px,iter,[],0⟩] scope pos) (y8 src fe) :=
 PE.weak (Lq (te:=tM X.K X.mg XN fe) hc S eN cv hi (λcl C af ah fp=>he cl C af ah fp) hs) λU H Q ⟨env,st,ρ,re,rs,h⟩=>⟨env,st,ρ,re,rs,h.then λar H0 q df e0 s0 h0 J wk=>by
  cases q with
  | im xs =>
   obtain ⟨hl,h0⟩:=Out.ifp h0
   obtain ⟨w1,w2,w3⟩:=wk
   refine ⟨λi m ys H=>m=xs.length-i/\i<=xs.length/\ys.length=i/\∃ps st ρ,Rs X.K X.mg ρ H ps ys/\a7 X.K X.mg ρ H st/\Ext ar H0 ρ H/\Out X.K X.mg ρ H (cO fe env (xs.drop i) ps st) (gV X.K X.mg Q) Er,⟨xs.length,by simp,jj _,rfl,[],df,ar,rfl,s0,Ext.refl,h0⟩,?_⟩
   rintro i m ys H ⟨rfl,hi,hy,ps,st,ρ,cw,rs,ex,h⟩
   by_cases bw:i<xs.length
   ·refine .inr ⟨w1 i ρ H ex bw,yR (by omega),λv H' y=>?_⟩
    obtain ⟨x,hx,bD,s2,rx⟩:=w3 i ρ H st v H' ex rs bw y
    have hd:xs.drop i=x::xs.drop (i+1):=by
     rw [jW bw]
     have:=(yv.mp hx).2
     rw [this]
    rw [hd] at h
    simp only [cO] at h
    refine ⟨some x::env,st,ρ,(re.ext (e0.trans (ex.trans bD))).cons rx,s2,jC (Out.ext h bD) λak H3 y a0 e3 s3 h3 v ry=>⟨xs.length-(i+1),by omega,rfl,bw,by simp [hy],ps++[y],a0,ak,Rs.snoc ry (Rs.ext (bD.trans e3) ps cw),s3,(ex.trans bD).trans e3,h3⟩⟩
   ·have e:i=xs.length:=by omega
    subst e
    rw [List.drop_length] at h
    exact .inl ⟨w2 _ ρ H ex (ye _),yR (by omega),λl hl=>Out.newList h rs cw hl⟩
  | rf n =>
   obtain ⟨a,ha,rfl⟩:=wk
   refine ⟨λi m ys H=>m+i=lim+1/\ys.length=i/\∃ps st ρ,Rs X.K X.mg ρ H ps ys/\a7 X.K X.mg ρ H st/\Ext ar H0 ρ H/\ρ[n]?=some a/\Out X.K X.mg ρ H (fC fe env n m i ps st) (gV X.K X.mg Q) Er,⟨lim+1,rfl,rfl,[],df,ar,rfl,s0,Ext.refl,ha,h0⟩,?_⟩
   rintro i m ys H ⟨hm,hy,ps,st,ρ,cw,rs,ex,ha,h⟩
   cases m with
   | zero=>exact h.elim
   | succ m =>
    obtain ⟨xs,hn,h⟩:=jw h
    obtain ⟨vs,hH,hR⟩:=rs.addr hn ha
    cases hx:xs[i]? with
    | none =>
     simp only [hx] at h
     have:vs.length<=i:=by rw [<-hR.len];exact lD.mp hx
     exact .inl ⟨⟨vs,a6.of hH,this⟩,yR (by omega),λl hl=>Out.newList h rs cw hl⟩
    | some x =>
     simp only [hx] at h
     obtain ⟨v,hv,rv⟩:=hR.get hx
     refine .inr ⟨⟨vs,v,a6.of hH,hv⟩,yR (by omega),λv' H' y=>?_⟩
     obtain ⟨e1,y⟩:=y
     subst e1
     have e2:=y vs (a6.of hH)
     rw [hv] at e2
     cases e2
     exact ⟨some x::env,st,ρ,(re.ext (e0.trans ex)).cons rv,rs,jC h λak H3 y a0 e3 s3 h3 v ry=>⟨m,jK m,by omega,by simp [hy],ps++[y],a0,ak,Rs.snoc ry (Rs.ext e3 ps cw),s3,ex.trans e3,e3.get ha,h3⟩⟩⟩
def kR {elt iter:Expr} {x:Str} {px:Pos} {scope:Scope} {src:zd->Mo Sq} {fe:Ai} {N:Ad} (hc:X.calm=true) (S:di X.env.scope scope x) (eN:X.N=N) (cv:((".0" : Str)::x::N).Nodup)
  (hi:MI X Er (.Name x px) iter src) (he:∀cl C af ah fp,ME (Cs X scope cl x C af ah fp (λ_ _=>False)) XN elt fe)
  (hs:∀v,foldedSetIterable iter X.env v=pure v:=by intro _;rfl):ME X Er (.ListComp elt [⟨.Name x px,iter,[],0⟩] scope pos) (y8 src fe) :=
 DM hc S Hid.refl (eN▸cv) hi he hs
end
section
variable {env:Env}{es:List Expr}{pos:Pos}
abbrev DN (e:Expr) (es:List Expr) (env:Env):Prop:=starEach (e::es) env=(false,eval e env)::starEach es env
def OQ {c j}:DN (.Constant c j pos) es env:=(rfl)
end
end Mi
namespace L2
open PySem PySem.Spec PyProof.Rows PySem.W
abbrev ZB (h:Heap) (z TI TO T:Addr) (f:Bool):Prop:=h.get? z=some { cls:=.type "zip", dict:=none,data:=.fields #[rawInt T,.bool f,.bool false,.ref TI,.ref TO],slots:=#[] }
section
variable {prog:Program}{w:World}{A:Around}{E:Aa}{s:Shared}{z TI TO T i1 i2 t1 t2:Addr}{k:Nat}{xs ys:Array Value}{x y a b:Value}{S1 S2:Nat->Heap->Prop}{f:Bool}{o:Obj}
end
structure ZS (z TI TO i1 i2 a b:Addr) (xs ys:Array Value) (k:Nat) (h:Heap):Prop where
 zi:(IsZip h z TI TO .none/\∃u v,IsPair h TO u v)\/∃T f o,ZB h z TI TO T f/\h.get? T=some o
 ti:IsPair h TI (.ref i1) (.ref i2)
 s1:pJ i1 a xs k h
 s2:pJ i2 b ys k h
section
variable {prog:Program}{w:World}{A:Around}{E:Aa}{s:Shared}{z TI TO i1 i2 a b:Addr}{k:Nat}{xs ys:Array Value}{x y:Value}
def ZS.type (st:ZS z TI TO i1 i2 a b xs ys k s.heap):s.TypeIs (.ref z) "zip" := by
 rcases st.zi with ⟨hz,_⟩|⟨T,f,o,hz,_⟩<;>exact ⟨_,hz,rfl⟩
end
structure Ap (d z TI TO i1 i2 a b:Addr):Prop where
 z:d≠z
 TI:d≠TI
 TO:d≠TO
 i1:d≠i1
 i2:d≠i2
 a:d≠a
 b:d≠b
section
variable {prog:Program}{w:World}{A:Around}{R:Result->Shared->Prop}{z TI TO i1 i2 a b d:Addr}{xs ys:Array Value}{keys:List Key}{vals:List V}
def ZS.keep {k:Nat}{h h':Heap}(st:ZS z TI TO i1 i2 a b xs ys k h) (P:Ap d z TI TO i1 i2 a b) (hs:Heap.SameBut d h h') (hd:∃o,h'.get? d=some o):ZS z TI TO i1 i2 a b xs ys k h':=by
 have up:∀c o,c≠d->h.get? c=some o->h'.get? c=some o:=λc o n e=>hs.extBut _ _ n e
 obtain ⟨⟨⟨o1,g1,r1⟩,⟨p1,e1,t1⟩⟩,⟨⟨o2,g2,r2⟩,⟨p2,e2,t2⟩⟩⟩:=And.intro st.s1 st.s2
 refine ⟨?_,up _ _ P.TI.symm st.ti,⟨⟨o1,up _ _ P.i1.symm g1,r1⟩,⟨p1,up _ _ P.a.symm e1,t1⟩⟩,⟨⟨o2,up _ _ P.i2.symm g2,r2⟩,⟨p2,up _ _ P.b.symm e2,t2⟩⟩⟩
 rcases st.zi with ⟨hz,u,v,eY⟩|⟨T,f,o,hz,hT⟩
 ·exact .inl ⟨up _ _ P.z.symm hz,u,v,up _ _ P.TO.symm eY⟩
 ·by_cases e:T=d
  ·obtain ⟨o',ho'⟩:=hd
   exact .inr ⟨T,f,o',up _ _ P.z.symm hz,by rw [e];exact ho'⟩
  ·exact .inr ⟨T,f,o,up _ _ P.z.symm hz,up _ _ e hT⟩
end
section
variable {prog:Program}{w:World}{A:Around}{E:Aa}{s:Shared}{z TI TO i1 i2 a b:Addr}{xs ys:Array Value}{keys:List Key}{vals:List V}
def ZS.push {k:Nat}{h h':Heap}(st:ZS z TI TO i1 i2 a b xs ys k h) (up:∀c o,h.get? c=some o->h'.get? c=some o):ZS z TI TO i1 i2 a b xs ys k h':=by
 obtain ⟨⟨⟨o1,g1,r1⟩,⟨p1,e1,t1⟩⟩,⟨⟨o2,g2,r2⟩,⟨p2,e2,t2⟩⟩⟩:=And.intro st.s1 st.s2
 refine ⟨?_,up _ _ st.ti,⟨⟨o1,up _ _ g1,r1⟩,⟨p1,up _ _ e1,t1⟩⟩,⟨⟨o2,up _ _ g2,r2⟩,⟨p2,up _ _ e2,t2⟩⟩⟩
 rcases st.zi with ⟨hz,u,v,eY⟩|⟨T,f,o,hz,hT⟩
 ·exact .inl ⟨up _ _ hz,u,v,up _ _ eY⟩
 ·exact .inr ⟨T,f,o,up _ _ hz,up _ _ hT⟩
end
end L2
namespace Mi
open PySem L2 PySem.W PySem.Spec
section
variable {X:Cx}{K:Frag}{mg:Ab}{Er:XK}{e o:Expr}{es:List Expr}{pos p apos:Pos}{k:Nat}{x:Str}{m:Al}{fs:Ah}{fo fa:Ai}
def xy (j:Nat):Fl->Mo Fl
 | .nx e,st=>.ok (.nx (e.set j none)) st
 | .rt x,st=>.ok (.rt x) st
 | _,_=>.stuck
end
section
variable {X:Cx}{K:Frag}{mg:Ab}{Er:XK}{e o:Expr}{es:List Expr}{pos p apos:Pos}{fs:Ah}{fo fa:Ai}
def strsOf:List PV->Option (Ad)
 | []=>some []
 | .str z::r=>(strsOf r).map (z::·)
 | _::_=>none
theorem DO {ρ:Ae}{H:Hp}:∀{xs:An}{zs:Ad}{vs:List V},strsOf xs=some zs->Rs K mg ρ H xs vs->vs=(zs.map Sum.inr:List Key).map kV
 | [],zs,vs,e,h=>by cases e;cases h;rfl
 | .str z::r,zs,vs,e,h=>by
  simp only [strsOf,Option.map_eq_some_iff] at e
  obtain ⟨zr,e1,rfl⟩:=e
  obtain ⟨v,r',rfl,h1,h2⟩:=h
  cases h1
  rw [DO e1 h2]
  rfl
 | .non::_,_,_,e,_=>by cases e
 | .bl _::_,_,_,e,_=>by cases e
 | .int _::_,_,_,e,_=>by cases e
 | .ty _::_,_,_,e,_=>by cases e
 | .tup _::_,_,_,e,_=>by cases e
 | .frl _::_,_,_,e,_=>by cases e
 | .ref _::_,_,_,e,_=>by cases e
 | .fn _::_,_,_,e,_=>by cases e
 | .kd _ _::_,_,_,e,_=>by cases e
 | .exo _ _ _::_,_,_,e,_=>by cases e
end
end Mi
namespace L2
open PySem PySem.Spec PyProof.Rows PySem.W
def DP (K:Frag) (a:Addr):It :=
 ⟨λi H=>∃xs x,a6 K H a xs/\xs[i]?=some x,
  λi H v H'=>∃T x,H T=none/\v=.ref T/\H'=upd H T (.tup [.int i,x])/\∀xs,a6 K H a xs->xs[i]?=some x,
  λi H=>∃xs,a6 K H a xs/\xs.length<=i⟩
def OR (e it a:Addr) (k:Nat) (h:Heap):Prop:=(∃old,IsEnum h e it k old)/\h.IsListIter it a k
def OS {X:Cx}{pins:Ac}{U:St}{H:Hp}{s:Shared}{a c:Addr}{xs:List V}(I:Inv X pins U H s) (hf:cU X pins H c) (hq:a6 X.K H a xs):a≠c:=by
 rintro rfl
 rcases hq with q|⟨o,its,n,hl,_⟩
 ·rcases q with q|⟨ob,q⟩<;>(rw [hf.1] at q;cases q)
 ·have e:=I.ok.mod.kin _ _ hl
  rcases hf.2.2.2.1 with z|z
  ·exact I.ok.noex _ _ e z
  ·exact absurd (jm (ym (I.ok.bs _ _ e).1) z) (Nat.lt_irrefl _)
def OT {P:Program}{w:World}{K:Frag}{elts:List Expr}{kt:Nat}{pos:Pos}{e it a:Addr}(ne:e≠it):Turn P w K (.Tuple elts kt pos) (DP K a) [e,it] e (OR e it a) where
 mem:=by simp
 obj:=λi h st c hc=>by
  obtain ⟨⟨old,he⟩,⟨o1,e1,_,d1⟩⟩:=st
  simp only [yF,List.not_mem_nil,h_] at hc
  rcases hc with q|q<;>rw [q]
  ·exact ⟨_,he,λv z=>by cases z⟩
  ·exact ⟨_,e1,λv z=>by rw [d1] at z;cases z⟩
 keep:=λi h h' st k=>by
  obtain ⟨⟨old,he⟩,⟨o1,e1,r1⟩⟩:=st
  exact ⟨⟨old,k e (by simp) _ he⟩,⟨o1,k it (by simp) _ e1,r1⟩⟩
 item:=by
  intro X hP hw hK hc i pins s U H E I hf st hg
  subst hP hw hK
  obtain ⟨xs,x,hq,hx⟩:=hg
  obtain ⟨⟨old,he⟩,hit⟩:=st
  obtain ⟨its,rv,p,hz⟩:=I.list hq
  obtain ⟨u,hu,ru⟩:=rv.get hx
  have n1:∀c∈[e,it],a≠c:=λc h=>OS I (hf c h) hq
  refine wpAny_pyNext_enum_item he hit p.isList (x:=u) (by simpa using hu) ne λh1 eo p5 pT hsz kk=>⟨_,rfl,?_⟩
  refine wpAny_letOwnedTupleGo_enum (s:={ s with heap:=h1,toks:=s.toks+1 }) eo λh2 e2 sb=>?_
  have fr:H s.heap.objs.size=none:=I.hok.fresh (ye _)
  have up:∀c o,c≠e->h1.get? c=some o->h2.get? c=some o:=λc o n q=>sb.extBut _ _ n q
  have nz:s.heap.objs.size≠e:=Nat.ne_of_gt (ym he)
  have k2:∀c o,c∉[e,it]->s.heap.get? c=some o->h2.get? c=some o:=λc o nc q=>up c o (λz=>nc (by simp [z])) (kk c o (λz=>nc (by simp [z])) (λz=>nc (by simp [z])) q)
  refine ⟨.ref s.heap.objs.size,upd H s.heap.objs.size (.tup [.int i,x]),?_,rfl,⟨s.heap.objs.size,x,fr,rfl,rfl,λys hy=>by rw [I.list_inj hy hq];exact hx⟩,?_,λc cQ=>?_⟩
  ·exact Inv.turnN (s:=s) (h':=h2) (t':=s.toks+1) I hf k2 (ye _) ⟨show 2<=sizeLine by decide,[.int i s.toks,u],.cons ⟨_,rfl⟩ (.cons ru .nil),_,up _ _ nz pT,rfl,_,rfl⟩
  ·refine ⟨⟨u,by rw [show ((i+1:Nat):Int)=(i:Int)+1 from rfl];exact e2⟩,let ⟨o,q,r⟩:=p5;⟨o,up _ _ ne.symm q,r⟩⟩
  ·have lt:∃o,s.heap.get? c=some o:=by
    simp only [yF,List.not_mem_nil,h_] at cQ
    rcases cQ with q|q<;>rw [q]
    ·exact ⟨_,he⟩
    ·exact let ⟨o,q,_⟩:=hit;⟨o,q⟩
   obtain ⟨o,q⟩:=lt
   have z:c≠s.heap.objs.size:=yK (ym q)
   rw [yc z]
   exact (hf c cQ).1
 done:=by
  intro X hP hw hK hc i pins s U H E I hf st hg
  subst hP hw hK
  obtain ⟨xs,hq,hx⟩:=hg
  obtain ⟨⟨old,he⟩,hit⟩:=st
  obtain ⟨its,rv,p,hz⟩:=I.list hq
  have hl:=rv.length
  refine wpAny_pyNext_enum_end (I.ok.hd hc) he hit p.isList (by simp;omega) λh' eb=>⟨rfl,?_⟩
  exact Inv.turnL (ch:=[e,it]) (t':=s.toks) I hf λc o nc q=>eb c o (λz=>nc (by simp [z])) q
 self:=λ_ _ _ _ _ st h=>by
  obtain ⟨⟨old,he⟩,_⟩:=st
  exact wpAny_pyIter_enum he h
theorem DQ:bootBuiltins "enumerate" = some (.type "enumerate"):=by decide +kernel
def OU (K:Frag) (ta:TA):TI:=λU H R=>ta U H λvs H1=>∃a,vs=[.ref a]/\(∃xs,a6 K H1 a xs)/\R (DP K a) H1
theorem DR {X:Cx} {elts:List Expr} {kt:Nat} {tp:Pos} {x:Expr} {ta:TA} {p pos:Pos} (hg:Gl X "enumerate") (hm:X.mg "enumerate" = none) (ha:PA X [x] ta) (hs:starEach [x] X.env=[(false,eval x X.env)]:=by rfl) :
  PI X (.Tuple elts kt tp) (.Call (.Name "enumerate" p) [x] [] pos) (OU X.K ta):=by
 intro pins s U H R I h
 refine Call_ (lE I hg hm DQ (PyProof.Rows.callWith_type1 (aV (ha pos pins s U H _ I h) λus s1 ⟨vs,H1,I1,r1,q1⟩=>?_) hs rfl))
 obtain ⟨a,e,⟨xs,hq⟩,q⟩:=q1
 subst e
 obtain ⟨u,rfl,ru⟩:=r1.one
 obtain rfl:u=Value.ref a:=ru
 obtain ⟨its,_,p1,_⟩:=I1.list hq
 refine call_enumerate_list p1.isList λh' he hit hsz kk=>wpAny_pyIter_enum he ?_
 have ne:∀(n:Nat),n+1≠n:=λn z=>by omega
 refine ⟨_,[s1.heap.objs.size+1,s1.heap.objs.size],_,_,H1,rfl,I1.kept (t':=s1.toks) kk,OT (ne _),⟨⟨_,he⟩,hit⟩,λc hc=>?_,q⟩
 have le:s1.heap.objs.size<=c:=by
  simp only [yF,List.not_mem_nil,h_] at hc
  rcases hc with q|q<;>rw [q]<;>first|exact ye _|exact Nat.le_add_right _ _
 exact I1.fpOk le (I1.hok.fresh le)
end L2
namespace Mi
open PySem L2 PySem.W PySem.Spec
section
variable {X:Cx}{Er:XK}{pos:Pos}{eR:List Stmt}{gb:Aj}{fs:Ah}
def dW (g:PV->zd->Option zd) (body:Aj) (n:Nat):Nat->Nat->Aj
 | 0,_,_,_=>.stuck
 | m+1,i,env,st=>yl st n λxs=>match xs[i]? with
  | none=>.ok (.nx env) st
  | some x=>match g (.tup [.int i,x]) env with
   | none=>.stuck
   | some cm=>(body cm st).bind λfl aA=>match fl with
    | .nx e=>dW g body n m (i+1) e aA
    | .ct e=>dW g body n m (i+1) e aA
    | .bk e=>.ok (.nx e) aA
    | .rt v=>.ok (.rt v) aA
def mi:List PV->Mo Nat
 | [.ref n],st=>yl st n λ_=>.ok n st
 | _,_=>.stuck
def xA {α:Type}{K:Frag}{mg:Ab}{ρ:Ae}{H:Hp}{vs:An}{st:aa}{f:Nat->Mo α}{good:List Addr->Hp->α->aa->Prop}(h:Out K mg ρ H ((mi vs st).bind f) good Er):∃n xs,vs=[.ref n]/\st[n]?=some (.lst xs)/\Out K mg ρ H (f n st) good Er:=by
 unfold mi at h
 split at h
 ·rename_i n
  unfold yl at h
  cases hn:st[n]? with
  | none=>simp only [hn] at h;exact h.elim
  | some so =>
   cases so with
   | lst xs=>simp only [hn] at h;exact ⟨n,xs,rfl,hn,h⟩
   | _=>simp only [hn] at h;exact h.elim
 ·exact h.elim
def nS (fs:Ah) (g:PV->zd->Option zd) (body:Aj):Aj:=λenv st=>(fs env st).bind λvs ae=>(mi vs ae).bind λn ae=>dW g body n (lim+1) 0 env ae
def OV {elts:List Expr} {kt:Nat} {tp p ip:Pos} {x:Expr} {gt:PV->zd->Option zd} (hp:PassesOwn (model X.prog X.w) X.A X.env X.xe) (hc:X.calm=true) (hm:X.mg "enumerate" = none) (ha:MA X Er [x] fs) (hg:MG X Er (.Tuple elts kt tp) gt) (hb:fB X Er eR gb)
  (p6:Gl X "enumerate" := by rfl) (bH:starEach [x] X.env=[(false,eval x X.env)]:=by rfl) (hs:∀v,foldedSetIterable (.Call (.Name "enumerate" p) [x] [] ip) X.env v=pure v:=by intro _;rfl) :
  MS X Er (.For (.Tuple elts kt tp) (.Call (.Name "enumerate" p) [x] [] ip) eR [] pos) (nS fs gt gb) :=
 PS.weak (Bz hp hc (DR p6 hm ha bH) hg hb hs) λD U H ⟨env,st,ρ,re,rs,h⟩=>⟨env,st,ρ,re,rs,h.then λar H0 vs df e0 s0 h0 us ru=>by
  obtain ⟨n,nM,rfl,xB,h0⟩:=xA h0
  obtain ⟨v,rfl,rv⟩:=ru.one
  obtain ⟨a,rfl,ha⟩:=rv
  obtain ⟨p7,xC,xD⟩:=s0.addr xB ha
  refine ⟨a,rfl,⟨_,a6.of xC⟩,?_⟩
  refine ⟨λi m U H=>∃env st ρ,a8 X.K X.mg ρ H env U/\a7 X.K X.mg ρ H st/\ρ[n]?=some a/\Out X.K X.mg ρ H (dW gt gb n m i env st) (gS X.K X.mg D) Er,⟨lim+1,env,df,ar,re.ext e0,s0,ha,h0⟩,?_⟩
  rintro i m U H ⟨env,st,ρ,re,rs,ha,h⟩
  cases m with
  | zero=>exact h.elim
  | succ m =>
   obtain ⟨xs,hn,h⟩:=jw h
   obtain ⟨vs,hH,hR⟩:=rs.addr hn ha
   cases hx:xs[i]? with
   | none =>
    simp only [hx] at h
    have:vs.length<=i:=by rw [<-hR.len];exact lD.mp hx
    exact .inl ⟨⟨vs,a6.of hH,this⟩,Out.now (x:=Fl.nx env) h rs U re⟩
   | some x =>
    simp only [hx] at h
    obtain ⟨v,hv,rv⟩:=hR.get hx
    refine .inr ⟨⟨vs,v,a6.of hH,hv⟩,_,λai H' p'=>⟨m,jK m,p'⟩,λv' H' y=>?_⟩
    obtain ⟨T,x',hT,rfl,rfl,y⟩:=y
    have e2:=y vs (a6.of hH)
    rw [hv] at e2
    cases e2
    have ex:Ext ρ H ρ (upd H T (.tup [.int i,v])):=Ext.new hT
    cases hgx:gt (.tup [.int i,x]) env with
    | none=>simp only [hgx] at h;exact h.elim
    | some cm =>
     simp only [hgx] at h
     refine ⟨.tup [.int i,x],env,cm,ρ,⟨T,[.int i,v],rfl,.inl (.inl y0),_,_,rfl,rfl,_,_,rfl,R.ext ex x rv,rfl⟩,re.ext ex,hgx,λaw r1=>⟨cm,st,ρ,r1,rs.new hT,Out.then (Out.ext h ex) λak H3 fl a0 e3 s3 h3=>?_⟩⟩
     cases fl with
     | nx e=>exact λaE r4=>⟨e,a0,ak,r4,s3,e3.get ha,h3⟩
     | ct e=>exact λaE r4=>⟨e,a0,ak,r4,s3,e3.get ha,h3⟩
     | bk e=>exact Out.fl (D:=D) (fl:=.nx e) (E:=Er) h3 s3
     | rt v=>exact Out.fl (D:=D) (fl:=.rt v) (E:=Er) h3 s3⟩
end
section
variable {X:Cx}{Er:XK}{pos:Pos}{fs:Ah}
def fD (ft:Ak) (fe:Ai) (env:zd) (n:Nat):Nat->Nat->Al
 | 0,_,_,_=>.stuck
 | m+1,i,ys,st=>yl st n λxs=>match xs[i]? with
  | none=>.ok (.ref st.length) (st++[.lst ys])
  | some x=>(bG (ft (some (.int i)::some x::env) st)).bind λb ae=>if b=true then (bG (fe (some (.int i)::some x::env) ae)).bind λy aA=>fD ft fe env n m (i+1) (ys++[y]) aA
   else fD ft fe env n m (i+1) ys ae
def sU (fs:Ah) (ft:Ak) (fe:Ai):Ai:=λenv st=>(fs env st).bind λvs ae=>(mi vs ae).bind λn ae=>fD ft fe env n (lim+1) 0 [] ae
end
end Mi
namespace L2
open PySem PySem.Spec PyProof.Rows PySem.W
def eD (z:Str) (n:Int):Str:=if n<1 then Str.empty else if (n==1||z.length==0)=true then z else ⟨(List.replicate n.toNat z.cps).foldl (·++·) #[]⟩
theorem DS (c:Array Nat):∀(k:Nat) (a:Array Nat),((List.replicate k c).foldl (·++·) a).size=a.size+k*c.size
 | 0,a=>by simp
 | k+1,a=>by
  rw [List.replicate_succ,List.foldl_cons,DS c k,Array.size_append,Nat.succ_mul]
  omega
theorem OW (z:Str) (n:Int):(eD z n).length=n.toNat*z.length:=by
 unfold eD
 split
 ·rename_i h
  have:n.toNat=0:=by omega
  rw [this,Nat.zero_mul];rfl
 ·rename_i h
  split
  ·rename_i h2
   simp only [Bool.or_eq_true,beq_iff_eq] at h2
   rcases h2 with h2|h2
   ·subst h2;simp
   ·rw [h2];simp
  ·show ((List.replicate n.toNat z.cps).foldl (·++·) #[]).size=_
   rw [DS]
   show 0+n.toNat*z.cps.size=_
   rw [Nat.zero_add];rfl
def DT:R2:=λx y H Q=>∃z n,x=.str z/\y=.int n/\(0<=n/\n<=1000/\z.length<=1000)/\Q (.str (eD z n)) H
theorem OX {X:Cx}:ba X (binaryOp .Mult) DT:=by
 intro pins s U H x y v u Q I rx ry h
 obtain ⟨z,n,rfl,rfl,⟨h0,h1,h2⟩,q⟩:=h
 obtain ⟨t,rfl⟩:=rx
 obtain ⟨t',rfl⟩:=ry
 have hb:n.toNat*z.length<=1000000:=by
  have:n.toNat<=1000:=by omega
  calc n.toNat*z.length<=1000*1000:=Nat.mul_le_mul this h2
   _=1000000:=rfl
 have hsz:=sizeLine_eq
 refine PySem.P.mul_str (by rw [jr (by omega),jr (by omega)];rfl) (λha _=>?_) (λ_ _=>?_) ?_
 ·have:(2 ^ 63-1:Int)/n>=1000:=by
   rw [ge_iff_le,Int.le_ediv_iff_mul_le (by omega)]
   omega
  omega
 ·show decide _=false
  rw [decide_eq_false_iff_not]
  have:z.length*n.toNat<=1000000:=by rw [Nat.mul_comm];exact hb
  rw [sizeLine_eq];omega
 ·by_cases c1:n<1
  ·rw [zx c1]
   have e:eD z n=Str.empty:=by unfold eD;rw [zx c1]
   rw [e] at q
   exact ⟨by decide,.str Str.empty,H,I.tok _,⟨_,rfl⟩,q⟩
  ·rw [zH c1]
   by_cases c2:(n==1||z.length==0)=true
   ·rw [zx c2]
    have e:eD z n=z:=by unfold eD;rw [zH c1,zx c2]
    rw [e] at q
    exact ⟨.str z,H,I,⟨_,rfl⟩,q⟩
   ·rw [zH c2]
    have e:eD z n=⟨(List.replicate n.toNat z.cps).foldl (·++·) #[]⟩:=by unfold eD;rw [zH c1,zH c2]
    have hl:=OW z n
    rw [e] at q hl
    exact ⟨by rw [hl,sizeLine_eq];omega,.str _,H,I.tok _,⟨_,rfl⟩,q⟩
end L2
namespace Mi
open PySem L2 PySem.W PySem.Spec
section
variable {X:Cx}{K:Frag}{mg:Ab}{Er:XK}{e o:Expr}{es:List Expr}{pos apos:Pos}{fs:Ah}{fo fa:Ai}
def iO:Am
 | .int i,.int j,st=>C7 (.int i) (.int j) st
 | .str z,.int n,st=>if 0<=n/\n<=1000/\z.length<=1000 then .ok (.str (eD z n)) st else .stuck
 | _,_,_=>.stuck
def zig:cN X .Mult iO:=by
 obtain ⟨r,h1,h2⟩:=MY (X:=X)
 refine ⟨λx y H Q=>r x y H Q\/DT x y H Q,h1.or OX,fun ρ H st x y v w Q E s rx ry h=>?_⟩
 cases x with
 | int i =>
  cases y with
  | int j=>exact .inl (h2 ρ H st (.int i) (.int j) v w Q E s rx ry h)
  | _=>exact h.elim
 | str z =>
  cases y with
  | int n =>
   obtain ⟨c,h⟩:=Out.ifp h
   cases rx;cases ry
   exact .inr ⟨z,n,rfl,rfl,c,Out.now (x:=PV.str (eD z n)) h s _ rfl⟩
  | _=>exact h.elim
 | _=>exact h.elim
def p8:Al
 | [.int i],st=>if i.natAbs.log2<1920 then .ok (.str (toString i)) st else .stuck
 | _,_=>.stuck
def OY:c_ X (.type "str") p8:=⟨_,J4,fun ρ H st xs vs Q E s r h=>by
 unfold p8 at h
 split at h
 ·rename_i i
  obtain ⟨c,h⟩:=Out.ifp h
  obtain ⟨v,rfl,rfl⟩:=r.one
  exact ⟨i,rfl,c,Out.now (x:=PV.str (toString i)) h s _ rfl⟩
 ·exact h.elim⟩
theorem Rs.reverse {ρ:Ae}{H:Hp}:∀{xs:An}{vs:List V},Rs K mg ρ H xs vs->Rs K mg ρ H xs.reverse vs.reverse
 | [],_,h=>by cases h;rfl
 | x::xs,_,h=>by
  obtain ⟨v,r,rfl,h1,h2⟩:=h
  rw [List.reverse_cons,List.reverse_cons]
  exact (Rs.reverse h2).append ⟨v,[],rfl,h1,rfl⟩
def p_:List Expr->Option (Ad)
 | []=>some []
 | .Constant (.str z) _ _::r=>(p_ r).map (z::·)
 | _::_=>none
def sV (zs:Ad):Ah:=λ_ st=>.ok (zs.map PV.str) st
def zih:∀{es:List Expr}{zs:Ad},p_ es=some zs->MA X Er es (sV zs):=by
 intro es
 induction es with
 | nil=>intro zs h;cases h;exact zp
 | cons e r ih =>
  intro zs h
  cases e with
  | Constant c j p =>
   cases c with
   | str z =>
    simp only [p_,Option.map_eq_some_iff] at h
    obtain ⟨zr,h1,rfl⟩:=h
    exact C4 yf (ih h1) OQ
   | _=>cases h
  | _=>cases h
end
section
variable {env:zd}{st:aa}{fa fb fo fi fv fe:Ai}{fs:Ah}{ft:Ak}{g:Aj}{src:zd->Mo Sq}
@[simp] def Ys (xs:An) (i:Int):zm (.tup xs) (.int i) st=bP (cu xs i) st:=(rfl)
@[simp] def OZ (z:Str) (i:Int):zm (.str z) (.int i) st=if z.length<=lim then bP ((cu z.cps.toList i).map λc=>.str ⟨#[c]⟩) st else .stuck:=(rfl)
@[simp] def iP:y8 src fe env st=(src env st).bind λq ae=>eB fe env q ae:=(rfl)
@[simp] def kS (xs:An):eB fe env (.im xs) st=if xs.length<=lim then cO fe env xs [] st else .stuck:=(rfl)
@[simp] def O0:fY fs env st=(fs env st).bind nQ:=(rfl)
@[simp] def O3 (j:Int):nQ [.int j] st=if cR j=true then .ok (.im (nums 0 j.toNat)) st else .stuck:=(rfl)
@[simp] def O4 (gt:PV->zd->Option zd):nS fs gt g env st=(fs env st).bind λvs ae=>(mi vs ae).bind λn ae=>dW gt g n (lim+1) 0 env ae:=(rfl)
@[simp] def Yt (n:Nat):mi [.ref n] st=yl st n λ_=>.ok n st:=(rfl)
@[simp] def O5 (i:Int):p8 [.int i] st=if i.natAbs.log2<1920 then .ok (.str (toString i)) st else .stuck:=(rfl)
@[simp] def O6 (i j:Int):iO (.int i) (.int j) st=if kG i j=true then .ok (.int (i*j)) st else .stuck:=(rfl)
@[simp] def DV (neg:Bool) (x:PV) (ys:An):yt neg x (.tup ys) st=if okIn x ys then .ok (.bl (neg.xor (ys.any λy=>bz y x))) st else .stuck:=by unfold yt;cases x<;>rfl
@[simp] def wY (n:Nat):yW [.ref n] st=yl st n λxs=>.ok (.tup xs) st:=(rfl)
@[simp] def O7 (n:Nat) (y:PV):js (.ref n) y st=yl st n λxs=>if xs.length<lim then .ok .non (st.set n (.lst (xs++[y]))) else .stuck:=(rfl)
end
def Pre (a b:aa):Prop:=∃d,b=a++d
def Pre.refl (st:aa):Pre st st:=⟨[],by simp⟩
def Pre.trans {a b c:aa}(h:Pre a b) (h':Pre b c):Pre a c:=by obtain ⟨d,rfl⟩:=h;obtain ⟨d',rfl⟩:=h';exact ⟨d++d',by simp⟩
def Pre.of (st d:aa):Pre st (st++d):=⟨d,rfl⟩
def Pre.get {a b:aa}(h:Pre a b) {n:Nat}{so:SO}(e:a[n]?=some so):b[n]?=some so:=by
 obtain ⟨d,rfl⟩:=h
 rw [ib (yv.mp e).1]
 exact e
def yp (st:aa) (so:SO):(st++[so])[st.length]?=some so:=by simp
theorem xE {fe:Ai}{env:zd}{f:PV->PV}{st:aa}:∀(xs:An),(∀x∈xs,fe (some x::env) st=.ok (f x) st)->∀(ys:An),cO fe env xs ys st=.ok (.ref st.length) (st++[.lst (ys++xs.map f)])
 | [],_,ys=>by simp [cO]
 | x::xs,h,ys=>by
  simp only [cO,h x (jd ..),j0,zG]
  rw [xE xs (λx' sD=>h x' (jq _ sD))]
  simp
def zqs {K:Frag}{mg:Ab}{t:IsT}(hs:t.sub=λ_ _=>none) (hT:t.subT=λ_ _=>none) (hC:t.tyC=λ_ _=>none):IsF K mg t where
 s c B b h:=by rw [hs] at h;cases h
 tt c n b h:=by rw [hT] at h;cases h
 u T B b h:=by rw [hC] at h;cases h
 x c C h hm z:=by
  rcases z with ⟨B,b,z⟩|⟨n,b,z⟩
  ·rw [hs] at z;cases z
  ·rw [hT] at z;cases z
 i c C h hm z:=by
  rcases z with ⟨B,b,z⟩|⟨n,b,z⟩
  ·rw [hs] at z;cases z
  ·rw [hT] at z;cases z
section
variable {X:Cx}{Er:XK}{pos:Pos}
inductive qc (X:Cx) (Er:XK):List (Option Expr)->List Expr->List Str->List (Ai)->Prop
 | nil:qc X Er [] [] [] []
 | cons {z:Str} {j} {p:Pos} {v:Expr} {f:Ai} {ks:List (Option Expr)} {vs:List Expr} {zs:Ad} {fs:List (Ai)} (hv:ME X Er v f) (hr:qc X Er ks vs zs fs):qc X Er (some (.Constant (.str z) j p)::ks) (v::vs) (z::zs) (f::fs)
def qc.len {ks:List (Option Expr)}{vs:List Expr}{zs:Ad}{fs:List (Ai)}(h:qc X Er ks vs zs fs):ks.length=vs.length/\zs.length=fs.length/\ks.length=zs.length/\ks.all (·.isSome)=true:=by
 induction h with
 | nil=>exact ⟨rfl,rfl,rfl,rfl⟩
 | cons hv hr ih=>exact ⟨by simp [ih.1],by simp [ih.2.1],by simp [ih.2.2.1],by simpa using ih.2.2.2⟩
end
section
variable {X:Cx}
end
section
variable {X:Cx}
def O8:ba X (compareOp .IsNot) (λx y H Q=>∃a b,x=.bl a/\y=.bl b/\Q (.bl (!(a==b))) H):=by
 intro pins s U H x y v u Q I rx ry h
 obtain ⟨a,b,rfl,rfl,q⟩:=h
 cases rx;cases ry
 exact PyProof.Rows.isnot_bool ⟨.bl (!(a==b)),H,I,rfl,q⟩
def j1:Am
 | .bl a,.bl b,st=>.ok (.bl (!(a==b))) st
 | x,y,st=>C_ x y st
def za6:bJ X .IsNot j1:=by
 obtain ⟨r,h1,h2⟩:=Nc (X:=X)
 refine ⟨λx y H Q=>r x y H Q\/_,h1.or O8,fun ρ H st x y v w Q E s rx ry h=>?_⟩
 unfold j1 at h
 split at h
 ·rename_i a b
  cases rx;cases ry
  exact .inr ⟨_,_,rfl,rfl,Out.now (x:=PV.bl (!(a==b))) h s _ rfl⟩
 ·exact .inl (h2 ρ H st _ _ v w Q E s rx ry h)
end
def fP (f:PV->PV->Option Bool):List PV->List PV->Option Bool
 | [],[]=>some true
 | x::xs,y::ys=>match f x y,fP f xs ys with
  | some a,some b=>some (a&&b)
  | _,_=>none
 | _,_=>some false
def dN (f:PV->PV->Option Bool) (b_:Ad) (cM:An):List Str->List PV->Option Bool
 | k::ks,x::xs=>match (b_.zip cM).lookup k with
  | none=>some false
  | some y=>match f x y,dN f b_ cM ks xs with
   | some a,some b=>some (a&&b)
   | _,_=>none
 | _,_=>some true
theorem DW {f:PV->PV->Option Bool}:∀{xs ys:An}{b:Bool},fP f xs ys=some b->∃e:Nat->Bool,(∀j x y,xs[j]?=some x->ys[j]?=some y->f x y=some (e j))/\((List.range (min xs.length ys.length)).all e&&xs.length==ys.length)=b
 | [],[],b,h=>by cases h;exact ⟨λ_=>true,λj x y h=>by simp at h,by simp⟩
 | [],y::ys,b,h=>by cases h;exact ⟨λ_=>true,λj x y h=>by simp at h,by simp⟩
 | x::xs,[],b,h=>by cases h;exact ⟨λ_=>true,λj x y _ h=>by simp at h,by simp⟩
 | x::xs,y::ys,b,h=>by
  simp only [fP] at h
  cases hf:f x y with
  | none=>rw [hf] at h;cases h
  | some a =>
   cases hr:fP f xs ys with
   | none=>rw [hf,hr] at h;cases h
   | some c =>
    rw [hf,hr] at h
    cases h
    obtain ⟨e,h1,h2⟩:=DW hr
    refine ⟨λj=>match j with|0=>a|j+1=>e j,λj u v hu hv=>?_,?_⟩
    ·cases j with
     | zero=>simp at hu hv;subst hu;subst hv;exact hf
     | succ j=>simp at hu hv;exact h1 j u v hu hv
    ·have e1:min (x::xs).length (y::ys).length=min xs.length ys.length+1:=by simp only [j5];omega
     have e2:((x::xs).length==(y::ys).length)=(xs.length==ys.length):=by
      rw [Bool.eq_iff_iff];simp
     rw [e1,e2,List.range_succ_eq_map,List.all_cons,List.all_map,<-h2,Bool.and_assoc]
     rfl
section
variable {X:Cx}{Er:XK}{K:Frag}{mg:Ab}{ρ:Ae}{pins:Ac}{U:L2.St}{H:Hp}{s:Shared}{st:aa}
def O9 {ρ:Ae}(nd:ρ.Nodup) {n m:Nat}{a:Addr}(h:ρ[n]?=some a) (h':ρ[m]?=some a):n=m:=by
 obtain ⟨h1,h2⟩:=yv.mp h
 obtain ⟨h3,h4⟩:=yv.mp h'
 have pw:=List.pairwise_iff_getElem.mp nd
 rcases Nat.lt_trichotomy n m with c|c|c
 ·exact absurd (h2.trans h4.symm) (pw n m h1 h3 c)
 ·exact c
 ·exact absurd (h4.trans h2.symm) (pw m n h3 h1 c)
theorem DX {f:PV->PV->Option Bool}(hf:∀x y v b,f x y=some b->R K mg ρ H x v->R K mg ρ H y v->b=true):∀{xs ys:An}{vs:List V}{b:Bool},fP f xs ys=some b->Rs K mg ρ H xs vs->Rs K mg ρ H ys vs->b=true
 | [],[],vs,b,h,_,_=>by cases h;rfl
 | [],y::ys,vs,b,h,rx,ry=>by cases rx;obtain ⟨_,_,e,_⟩:=ry;cases e
 | x::xs,[],vs,b,h,rx,ry=>by cases ry;obtain ⟨_,_,e,_⟩:=rx;cases e
 | x::xs,y::ys,vs,b,h,rx,ry=>by
  obtain ⟨v,r,rfl,r1,r2⟩:=rx
  obtain ⟨v',r',e,r3,r4⟩:=ry
  cases e
  simp only [fP] at h
  cases h1:f x y with
  | none=>rw [h1] at h;cases h
  | some a =>
   cases h2:fP f xs ys with
   | none=>rw [h1,h2] at h;cases h
   | some c =>
    rw [h1,h2] at h
    cases h
    rw [hf x y v a h1 r1 r3,DX hf h2 r2 r4]
    rfl
theorem DY {f:PV->PV->Option Bool}(hf:∀x v b,f x x=some b->R K mg ρ H x v->b=true) {xF:Ad}{nM:An}:∀{ks:Ad}{xs:An}{vs:List V}{b:Bool},(∀k x,(k,x)∈ks.zip xs->(xF.zip nM).lookup k=some x)->dN f xF nM ks xs=some b->Rs K mg ρ H xs vs->b=true
 | [],xs,vs,b,_,h,_=>by cases xs<;>(cases h;rfl)
 | k::ks,[],vs,b,_,h,_=>by cases h;rfl
 | k::ks,x::xs,vs,b,hm,h,rx=>by
  obtain ⟨v,r,rfl,r1,r2⟩:=rx
  simp only [dN] at h
  rw [hm k x (by simp)] at h
  simp only at h
  cases h1:f x x with
  | none=>rw [h1] at h;cases h
  | some a =>
   cases h2:dN f xF nM ks xs with
   | none=>rw [h1,h2] at h;cases h
   | some c =>
    rw [h1,h2] at h
    cases h
    rw [hf x v a h1 r1,DY hf (λk' x' h'=>hm k' x' (by simp [h'])) h2 r2]
    rfl
theorem DZ:∀{ks:Ad}{xs:An},ks.Nodup->∀k x,(k,x)∈ks.zip xs->(ks.zip xs).lookup k=some x
 | [],_,_,k,x,h=>by simp at h
 | _::_,[],_,k,x,h=>by simp at h
 | k0::ks,x0::xs,nd,k,x,h=>by
  rw [jI] at nd
  rw [List.zip_cons_cons] at h ⊢
  rcases yF.mp h with e|h'
  ·cases e;simp [yO]
  ·have hk:k∈ks:=(List.of_mem_zip h').1
   have ne:(k==k0)=false:=by
    simp only [beq_eq_false_iff_ne]
    intro e;subst e;exact nd.1 hk
   rw [yO,ne]
   exact DZ nd.2 k x h'
end
def e6 (P:Program) (W:World) (A:Around) (s:Shared) (u u':Value) (b:Bool):Prop:=∀(E:Aa) (Q:Bool->Shared->Prop),Q b s->wpAny (model P W) A (eqBool u u') Q E s
def cG (P:Program) (W:World) (A:Around) (s:Shared) (u u':Value) (b:Bool):Prop:=∀(E Q:Aa),Q (.bool b) s->wpAny (model P W) A (richCompare .Eq u u') Q E s
section
variable {P:Program}{W:World}{A:Around}{s:Shared}
def e6.of_refs {l b:Addr}{k:Bool}(pz:l≠b) (h:cG P W A s (.ref l) (.ref b) k):e6 P W A s (.ref l) (.ref b) k:=λE Q hq=>by
 unfold eqBool
 refine wn (wpAny_ite_split (λeZ=>absurd (by have:=eq_of_beq eZ;injection this) pz) λ_=>?_)
 exact zt (h E _ (wy hq))
theorem O_ {l b:Addr}{its aU:Array Value}{n n2:Nat}{dd lI:Option Addr}{sl iq:Array (Option Value)}{e:Nat->Bool}{E Q:Aa}
  (hl:s.heap.get? l=some { cls:=.type "tuple", dict:=dd,data:=.seq its n,slots:=sl }) (hb:s.heap.get? b=some { cls:=.type "tuple", dict:=lI,data:=.seq aU n2,slots:=iq })
  (he:∀j (h1:j<its.size) (h2:j<aU.size),e6 P W A.in1 s its[j] aU[j] (e j)) (h:Q (.bool ((List.range (min its.size aU.size)).all e&&its.size==aU.size)) s) :
  wpAny (model P W) A.in1 (Builtin.«tuple.__eq__» ⟨[.ref l,.ref b],[]⟩) (λfin s'=>∃v,fin=.done (.ret v)/\Q v s') E s:=by
 obtain ⟨hp,g,d,tk,os⟩:=s
 have f2:=AutoSeq1.sub_tuple_tuple
 have hZ:(its.toList.zip aU.toList).length=min its.size aU.size:=by simp
 wp_walk using AutoSeq1.wpAny_loadPart' hl,AutoSeq1.wpAny_loadPart' hb,wpAny_forIn_list _ (λrest b s'=>b.1=none/\s'=⟨hp,g,d,tk,os⟩/\∃i,rest=(its.toList.zip aU.toList).drop i/\Q (.bool (((List.range (min its.size aU.size)).drop i).all e&&its.size==aU.size)) ⟨hp,g,d,tk,os⟩) _
 case turn =>
  rintro ⟨y,x⟩ rest b s' ⟨xG,rfl,i,hz,hR⟩
  have bw:i<(its.toList.zip aU.toList).length:=by
   rcases Nat.lt_or_ge i (its.toList.zip aU.toList).length with h'|h'
   ·exact h'
   ·rw [lz h'] at hz;cases hz
  have hm:i<min its.size aU.size:=hZ▸bw
  have h1:i<its.size:=by omega
  have h2:i<aU.size:=by omega
  rw [jW bw] at hz
  injection hz with ku mj
  have hy:y=its[i]:=by have:=congrArg Prod.fst ku;simpa using this
  have hx:x=aU[i]:=by have:=congrArg Prod.snd ku;simpa using this
  subst hy hx
  have hd:(List.range (min its.size aU.size)).drop i=i::(List.range (min its.size aU.size)).drop (i+1):=by simp [jW,hm]
  rw [hd,List.all_cons] at hR
  refine zt (he i h1 h2 _ _ ?_)
  cases hy:e i with
  | true =>
   rw [hy] at hR
   wp_walk
   exact ⟨rfl,rfl,i+1,mj,by simpa using hR⟩
  | false =>
   rw [hy] at hR
   wp_walk
   exact ⟨_,rfl,by simpa using hR⟩
 case fin =>
  rintro ⟨b1,b2⟩ s' ⟨xG,rfl,i,hz,hR⟩
  simp only at xG
  subst xG
  have Pa:min its.size aU.size<=i:=by
   rcases Nat.lt_or_ge i (its.toList.zip aU.toList).length with h'|h'
   ·rw [jW h'] at hz;cases hz
   ·exact hZ▸h'
  rw [lz (by simpa using Pa)] at hR
  wp_walk
  exact ⟨_,rfl,by simpa [Builtin.Tuple.tupleCompareSizes] using hR⟩
 case h=>exact ⟨rfl,rfl,0,rfl,by simpa using h⟩
def cG.tuples {l b:Addr}{its aU:Array Value}{e:Nat->Bool}(hl:s.heap.IsTuple l its) (hb:s.heap.IsTuple b aU) (hu:A.units<cLine)
  (he:∀j (h1:j<its.size) (h2:j<aU.size),e6 P W A.in1 s its[j] aU[j] (e j)):cG P W A s (.ref l) (.ref b) ((List.range (min its.size aU.size)).all e&&its.size==aU.size):=λE Q h=>by
 obtain ⟨⟨cls,dd,data,sl⟩,ho,hc,n,hd⟩:=id hl
 obtain ⟨⟨uI,lI,data2,iq⟩,ho2,gw,n2,hd2⟩:=id hb
 simp only at hc hd gw hd2
 subst hc hd gw hd2
 refine wpAny_richCompare_same_room (op:=.Eq) ⟨_,ho,rfl⟩ ⟨_,ho2,rfl⟩ F.slot_tuple_eq (wm F.slot_tuple_eq ⟨_,ho,rfl⟩ F.entry_tuple_eq (O_ (Q:=λv s'=>v ≠ .notImplemented/\Q v s') ho ho2 he (show Value.bool ((List.range (min its.size aU.size)).all e&&its.size==aU.size)≠Value.notImplemented/\Q (.bool ((List.range (min its.size aU.size)).all e&&its.size==aU.size)) s from ⟨(λx=>nomatch x),h⟩)) (F.args_tuple_eq_2 _ _)) hu
end
section
variable {X:Cx}{Er:XK}{K:Frag}{mg:Ab}{ρ:Ae}{pins:Ac}{U:L2.St}{H:Hp}{s:Shared}{st:aa}
def Pb {k:Str}{ks:Ad}{v:V}{vs:List V}{us:List (Key×Value)}(h:KV (kz (k::ks) (v::vs)) us):∃u r,us=(Sum.inr k,u)::r/\RelV v u/\KV (kz ks vs) r:=by
 cases h with
 | @cons p q ps qs h t =>
  obtain ⟨h1,h2⟩:=h
  obtain ⟨k',u⟩:=q
  have:k'=Sum.inr k:=h1.symm
  subst this
  exact ⟨u,qs,rfl,h2,t⟩
theorem D1 {f:Str}:∀{ks:Ad}{xs:An}{vs:List V},Rs K mg ρ H xs vs->(ks.zip xs).lookup f=none->(ks.zip vs).lookup f=none
 | [],_,_,_,_=>by simp
 | k::ks,[],_,r,_=>by cases r;simp
 | k::ks,y::xs,_,r,h=>by
  obtain ⟨v,r',rfl,h1,h2⟩:=r
  simp only [List.zip_cons_cons,yO] at h ⊢
  split at h
  ·cases h
  ·exact D1 h2 h
def Pc {f:PV->PV->Option Bool}{G:Value->Value->Bool->Prop}(hf:∀x y v w u u' b,f x y=some b->R K mg ρ H x v->R K mg ρ H y w->RelV v u->RelV w u'->G u u' b) {xs ys:An}{vs ws:List V}{its aU:Af}{e:Nat->Bool}(h2:Rs K mg ρ H xs vs) (h4:Rs K mg ρ H ys ws) (r1:Vals vs its) (r2:Vals ws aU) (he:∀j x y,xs[j]?=some x->ys[j]?=some y->f x y=some (e j)) :
  ∀j (g1:j<its.toArray.size) (g2:j<aU.toArray.size),G its.toArray[j] aU.toArray[j] (e j):=by
 intro j g1 g2
 have l1:=h2.len
 have l2:=h4.len
 have l3:=r1.length
 have l4:=r2.length
 have k1:j<xs.length:=by rw [l1,l3];simpa using g1
 have k2:j<ys.length:=by rw [l2,l4];simpa using g2
 obtain ⟨v1,e1,v8⟩:=h2.get (yo k1)
 obtain ⟨v2,e2,v9⟩:=h4.get (yo k2)
 obtain ⟨u1,f1,v_⟩:=r1.get e1
 obtain ⟨u2,f2,w_⟩:=r2.get e2
 have w1:its.toArray[j]=u1:=by
  obtain ⟨_,z⟩:=yv.mp f1
  simpa using z
 have w2:aU.toArray[j]=u2:=by
  obtain ⟨_,z⟩:=yv.mp f2
  simpa using z
 rw [w1,w2]
 exact hf xs[j] ys[j] v1 v2 u1 u2 (e j) (he j _ _ (yo k1) (yo k2)) v8 v9 v_ w_
end
section
variable {X:Cx}{Er:XK}{K:Frag}{mg:Ab}
theorem cW:∀{ks:Ad}{us:Af},us.length=ks.length->(∀(j:Nat) v,us[j]?=some v->∃k,ks[j]?=some k/\∃t,v=Value.str k t)->Vals (ks.map V.str) us
 | [],[],_,_=>.nil
 | [],_::_,h,_=>by simp at h
 | _::_,[],h,_=>by simp at h
 | k::ks,u::us,h,hv=>by
  obtain ⟨k',e,t,ev⟩:=hv 0 u rfl
  simp at e
  subst e
  exact .cons ⟨t,ev⟩ (cW (by simpa using h) λj v e=>by simpa using hv (j+1) v (by simpa using e))
def Pd (hc:X.calm=true):bY X (.type "list") (λxs H Q=>∃p ks vs,xs=[.ref p]/\H p=some (.dK (kz ks vs))/\ks.length=vs.length/\∀l,H l=none->Q (.ref l) (upd H l (.lst (ks.map V.str)))):=by
 intro pins s U H xs us Q I r h
 obtain ⟨p,ks,vs,rfl,hp,hl,q⟩:=h
 obtain ⟨u,rfl,rx⟩:=wQ r
 cases rx
 obtain ⟨hz,lo,kv,sW,hd⟩:=jR I.hok (.inl hp)
 obtain ⟨ep,Pe⟩:=hd.dictAt
 have lk:kv.length=ks.length:=by rw [<-sW.length];simp [kz,hl]
 have keys:kv.map (·.1)=ks.map Sum.inr:=by
  rw [<-sW.keys]
  simp [kz,hl,List.map_fst_zip]
 refine kdl_call (kdl_dict (knd:=bf X.prog X.w) (kvs:=kv) (ep:=ep) lo) (I.ok.hd hc) Pe (by rw [<-sW.length];exact hz) λh' tk cI c' hk hS mY=>?_
 have hv:Vals (ks.map V.str) cI.toList:=cW (by rw [Array.length_toList,mY.1,lk]) λj v e=>by
  obtain ⟨k,x,e1,e2⟩:=mY.2 j v (by rw [<-Array.getElem?_toList];exact e)
  have e3:(kv.map (·.1))[j]?=some k:=by rw [yZ,e1];rfl
  rw [keys,yZ] at e3
  cases e4:ks[j]? with
  | none=>rw [e4] at e3;cases e3
  | some k' =>
   rw [e4] at e3
   cases e3
   rcases wN (show fq (Sum.inr k') v=true from e2) with ⟨i,t,z,_⟩|⟨y,t,z,z'⟩
   ·cases z
   ·cases z;exact ⟨k',rfl,t,z'⟩
 exact ⟨.ref s.heap.objs.size,_,I.laid (t':=tk) hk (ye _) (show aZ X.prog X.w _ h' _ (.lst (ks.map V.str)) from ⟨by rw [jk,<-lk,<-sW.length];exact hz,cI.toList,c',hv,by simpa using hS⟩),rfl,q _ I.fresh⟩
def mm:Al:=λxs st=>match xs with
 | [.ref n]=>match st[n]? with
  | some (.dic ks _)=>.ok (.ref st.length) (st++[.lst (ks.map PV.str)])
  | _=>sC xs st
 | _=>sC xs st
theorem D2 {ρ:Ae}{H:Hp}:∀{ks:Ad},Rs K mg ρ H (ks.map PV.str) (ks.map V.str)
 | []=>rfl
 | k::ks=>⟨_,_,rfl,rfl,D2⟩
def Pf (hc:X.calm=true):c_ X (.type "list") mm:=by
 obtain ⟨r,h1,h2⟩:=Nl (X:=X)
 refine ⟨_,h1.or (Pd hc),fun ρ H st xs vs Q E s rx h=>?_⟩
 by_cases hx:∃n ks ys,xs=[.ref n]/\st[n]?=some (.dic ks ys)
 ·obtain ⟨n,ks,ys,rfl,e⟩:=hx
  have h:Out X.K X.mg ρ H (.ok (.ref st.length) (st++[.lst (ks.map PV.str)])) (gV X.K X.mg Q) E:=by
   simpa only [mm,e] using h
  obtain ⟨v,rfl,rv⟩:=Rs.one rx
  obtain ⟨a,vs,rfl,_,k1,_,k3⟩:=R.refD s rv e
  exact .inr ⟨a,ks,vs,rfl,k1,k3,λl hl=>Out.newList (xs:=ks.map PV.str) h s D2 hl⟩
 ·refine .inl (h2 ρ H st xs vs Q E s rx ?_)
  have:mm xs st=sC xs st:=by
   unfold mm
   split
   ·rename_i n
    split
    ·rename_i ks ys e;exact absurd ⟨n,ks,ys,rfl,e⟩ hx
    ·rfl
   ·rfl
  rw [this] at h
  exact h
def D5 {ss:List Stmt}:fB X Er ss yw:=cy.weak Jq λD U H ⟨env,st,ρ,re,rs,h⟩=>h
end
section
variable {P:Program}{W:World}{A:Around}{s:Shared}{E:Aa}{K:Type} [DecidableEq K] {knd:KeyKind P W K}
def nU {d:Addr} {kv:List (K×Value)} {x:Value} {T:String} {name:Str} (sl:Slot "dict" name "dict.__eq__") (hd:s.heap.DictOf knd d kv) (hx:s.TypeIs x T) (hs:isSubtype (.type T) (.type "dict")=pure false) (Q:Aa) (h:Q .notImplemented s) :
  wpAny (model P W) A (call (.builtin "dict.__eq__") [.ref d,x]) Q E s:=by
 refine wm sl hd.typeIs PySem.F.entry_dict_eq ?_ (PySem.F.args_dict_eq_2 _ _)
 show wpAny _ _ (Builtin.Dict.dictSlotArgs "__eq__" ⟨[.ref d,x],[]⟩ >>= _) _ _ s
 refine zt ?_
 unfold Builtin.Dict.dictSlotArgs
 refine zt (wpAny_notOrdered_dict hd.typeIs ?_)
 show wpAny _ _ (pure (Value.ref d,x)) _ _ s
 refine zM ?_
 refine zt (wpAny_isInstance hx hs ?_)
 simp only [Bool.not_false,if_true]
 exact zt (wpAny_rule (zM ⟨_,rfl,h⟩))
def D6 {d:Addr} {o:Obj} {b:Int} {u:Tok} {name:Str} (sl:Slot "int" name "int.__eq__") (ho:s.heap.get? d=some o) (hd:o.cls=.type "dict") {es:Array DictEntry} {ep:Nat} (hq':o.data=.dict es ep) (Q:Aa) (h:Q .notImplemented s) :
  wpAny (model P W) A (call (.builtin "int.__eq__") [.int b u,.ref d]) Q E s:=by
 refine wm sl (typeIs_int s b u) PySem.F.entry_int_eq ?_ (PySem.F.args_int_eq_2 _ _)
 obtain ⟨hp,g,dd,tk,os⟩:=s
 obtain ⟨c,d1,d2,d3⟩:=o
 cases hd
 cases hq'
 wp_walk using AutoSeq1.wpAny_loadPart' ho,wpAny_load ho
 exact ⟨_,rfl,h⟩
def D7 {d:Addr} {o:Obj} {b:Str} {u:Tok} {name:Str} (sl:Slot "str" name "str.__eq__") (ho:s.heap.get? d=some o) (hd:o.cls=.type "dict") {es:Array DictEntry} {ep:Nat} (hq':o.data=.dict es ep) (Q:Aa) (h:Q .notImplemented s) :
  wpAny (model P W) A (call (.builtin "str.__eq__") [.str b u,.ref d]) Q E s:=by
 refine wm sl (typeIs_str s b u) PySem.F.entry_str_eq ?_ (PySem.F.args_str_eq_2 _ _)
 obtain ⟨hp,g,dd,tk,os⟩:=s
 obtain ⟨c,d1,d2,d3⟩:=o
 cases hd
 cases hq'
 wp_walk using AutoSeq1.wpAny_loadPart' ho,wpAny_load ho
 exact ⟨_,rfl,h⟩
def D8 {d t:Addr} {o ot:Obj} {its:Array Value} {n:Nat} {name:Str} (sl:Slot "tuple" name "tuple.__eq__") (ht:s.heap.get? t=some ot) (hc:ot.cls=.type "tuple") (hq:ot.data=.seq its n) (ho:s.heap.get? d=some o) (hd:o.cls=.type "dict") {es:Array DictEntry} {ep:Nat} (hq':o.data=.dict es ep) (Q:Aa) (h:Q .notImplemented s) :
  wpAny (model P W) A (call (.builtin "tuple.__eq__") [.ref t,.ref d]) Q E s:=by
 refine wm sl ⟨_,ht,hc⟩ PySem.F.entry_tuple_eq ?_ (PySem.F.args_tuple_eq_2 _ _)
 obtain ⟨hp,g,dd,tk,os⟩:=s
 obtain ⟨c,d1,d2,d3⟩:=o
 obtain ⟨c',Yu,Yv,Yw⟩:=ot
 cases hd
 cases hq'
 cases hc
 cases hq
 have f1:=PySem.F.sub_dict_tuple
 wp_walk using AutoSeq1.wpAny_loadPart' ht,AutoSeq1.wpAny_loadPart' ho
 exact ⟨_,rfl,h⟩
def e6.of_ref {d:Addr}{u':Value}{k:Bool}(pz:Value.ref d≠u') (h:cG P W A s (.ref d) u' k):e6 P W A s (.ref d) u' k:=λE Q hq=>by
 unfold eqBool
 refine wn (wpAny_ite_split (λeZ=>absurd (eq_of_beq eZ) pz) λ_=>?_)
 exact zt (h E _ (wy hq))
def e6.of_num {d:Addr}{b:Int}{u:Tok}{k:Bool}(h:cG P W A s (.int b u) (.ref d) k):e6 P W A s (.int b u) (.ref d) k:=λE Q hq=>by
 unfold eqBool
 refine wn (wpAny_ite_split (λeZ=>absurd (eq_of_beq eZ) nofun) λ_=>?_)
 exact zt (h E _ (wy hq))
def e6.of_txt {d:Addr}{b:Str}{u:Tok}{k:Bool}(h:cG P W A s (.str b u) (.ref d) k):e6 P W A s (.str b u) (.ref d) k:=λE Q hq=>by
 unfold eqBool
 refine wn (wpAny_ite_split (λeZ=>absurd (eq_of_beq eZ) nofun) λ_=>?_)
 exact zt (h E _ (wy hq))
def cG.rec_num {d:Addr}{kv:List (K×Value)}(hd:s.heap.DictOf knd d kv) (b:Int) (u:Tok) (hu:A.units<cLine):cG P W A s (.ref d) (.int b u) false:=λE Q h=>by
 obtain ⟨o,es,ep,ho,hx,gJ,_⟩:=id hd
 have ty:=hd.typeIs
 obtain ⟨o',ho',hc⟩:=id ty
 rw [ho] at ho'
 cases ho'
 exact SeqAt.rc_eq_decline_or (k:=false) ty (typeIs_int s b u) (by decide) PySem.F.sub_int_dict PySem.F.slot_dict_eq PySem.F.slot_int_eq_refl (nU PySem.F.slot_dict_eq hd (typeIs_int s b u) PySem.F.sub_int_dict) (D6 PySem.F.slot_int_eq_refl ho hc gJ)
  (λ_ hq=>wpAny_of_eq (rfl:isSame (.ref d) (.int b u)=pure false) hq) (.inr hu) h
def cG.num_rec {d:Addr}{kv:List (K×Value)}(hd:s.heap.DictOf knd d kv) (b:Int) (u:Tok) (hu:A.units<cLine):cG P W A s (.int b u) (.ref d) false:=λE Q h=>by
 obtain ⟨o,es,ep,ho,hx,gJ,_⟩:=id hd
 have ty:=hd.typeIs
 obtain ⟨o',ho',hc⟩:=id ty
 rw [ho] at ho'
 cases ho'
 exact SeqAt.rc_eq_decline_or (k:=false) (typeIs_int s b u) ty (by decide) PySem.F.sub_dict_int PySem.F.slot_int_eq PySem.F.slot_dict_eq_refl (D6 PySem.F.slot_int_eq ho hc gJ) (nU PySem.F.slot_dict_eq_refl hd (typeIs_int s b u) PySem.F.sub_int_dict)
  (λ_ hq=>wpAny_of_eq (rfl:isSame (.int b u) (.ref d)=pure false) hq) (.inr hu) h
def cG.rec_txt {d:Addr}{kv:List (K×Value)}(hd:s.heap.DictOf knd d kv) (b:Str) (u:Tok) (hu:A.units<cLine):cG P W A s (.ref d) (.str b u) false:=λE Q h=>by
 obtain ⟨o,es,ep,ho,hx,gJ,_⟩:=id hd
 have ty:=hd.typeIs
 obtain ⟨o',ho',hc⟩:=id ty
 rw [ho] at ho'
 cases ho'
 exact SeqAt.rc_eq_decline_or (k:=false) ty (typeIs_str s b u) (by decide) PySem.F.sub_str_dict PySem.F.slot_dict_eq PySem.F.slot_str_eq_refl (nU PySem.F.slot_dict_eq hd (typeIs_str s b u) PySem.F.sub_str_dict) (D7 PySem.F.slot_str_eq_refl ho hc gJ)
  (λ_ hq=>wpAny_of_eq (rfl:isSame (.ref d) (.str b u)=pure false) hq) (.inr hu) h
def cG.txt_rec {d:Addr}{kv:List (K×Value)}(hd:s.heap.DictOf knd d kv) (b:Str) (u:Tok) (hu:A.units<cLine):cG P W A s (.str b u) (.ref d) false:=λE Q h=>by
 obtain ⟨o,es,ep,ho,hx,gJ,_⟩:=id hd
 have ty:=hd.typeIs
 obtain ⟨o',ho',hc⟩:=id ty
 rw [ho] at ho'
 cases ho'
 exact SeqAt.rc_eq_decline_or (k:=false) (typeIs_str s b u) ty (by decide) PySem.F.sub_dict_str PySem.F.slot_str_eq PySem.F.slot_dict_eq_refl (D7 PySem.F.slot_str_eq ho hc gJ) (nU PySem.F.slot_dict_eq_refl hd (typeIs_str s b u) PySem.F.sub_str_dict)
  (λ_ hq=>wpAny_of_eq (rfl:isSame (.str b u) (.ref d)=pure false) hq) (.inr hu) h
def nW {d t:Addr}{kv:List (K×Value)}{its:Array Value}(hd:s.heap.DictOf knd d kv) (ht:s.heap.IsTuple t its):d≠t:=λe=>by
 subst e
 obtain ⟨o,ho,hc⟩:=hd.typeIs
 obtain ⟨o2,ho2,gw,_⟩:=ht
 rw [ho] at ho2
 cases ho2
 rw [hc] at gw
 exact absurd gw (by simp)
def cG.rec_row {d t:Addr}{kv:List (K×Value)}{its:Array Value}(hd:s.heap.DictOf knd d kv) (ht:s.heap.IsTuple t its) (hu:A.units<cLine):cG P W A s (.ref d) (.ref t) false:=λE Q h=>by
 have ne:=nW hd ht
 obtain ⟨o,es,ep,ho,hx,gJ,_⟩:=id hd
 have ty:=hd.typeIs
 obtain ⟨o',ho',hc⟩:=id ty
 rw [ho] at ho'
 cases ho'
 obtain ⟨ot,gK,mq,n,xH⟩:=id ht
 exact SeqAt.rc_eq_decline_or (k:=false) ty ⟨_,gK,mq⟩ (by decide) PySem.F.sub_tuple_dict PySem.F.slot_dict_eq PySem.F.slot_tuple_eq_refl (nU PySem.F.slot_dict_eq hd ⟨_,gK,mq⟩ PySem.F.sub_tuple_dict) (D8 PySem.F.slot_tuple_eq_refl gK mq xH ho hc gJ)
  (λ_ hq=>wpAny_isSame_ref_other ne ho gK (by rw [hc];simp) hq) (.inr hu) h
def cG.row_rec {d t:Addr}{kv:List (K×Value)}{its:Array Value}(hd:s.heap.DictOf knd d kv) (ht:s.heap.IsTuple t its) (hu:A.units<cLine):cG P W A s (.ref t) (.ref d) false:=λE Q h=>by
 have ne:=nW hd ht
 obtain ⟨o,es,ep,ho,hx,gJ,_⟩:=id hd
 have ty:=hd.typeIs
 obtain ⟨o',ho',hc⟩:=id ty
 rw [ho] at ho'
 cases ho'
 obtain ⟨ot,gK,mq,n,xH⟩:=id ht
 exact SeqAt.rc_eq_decline_or (k:=false) ⟨_,gK,mq⟩ ty (by decide) PySem.F.sub_dict_tuple PySem.F.slot_tuple_eq PySem.F.slot_dict_eq_refl (D8 PySem.F.slot_tuple_eq gK mq xH ho hc gJ) (nU PySem.F.slot_dict_eq_refl hd ⟨_,gK,mq⟩ PySem.F.sub_tuple_dict)
  (λ_ hq=>SeqAt.wpAny_isSame_ref_other' ne.symm gK ho (by rw [hc];simp) hq) (.inr hu) h
inductive cP (P:Program) (W:World) (A:Around) (s:Shared) (kb:List (K×Value)):List (K×Value)->Bool->Prop
 | nil:cP P W A s kb [] true
 | miss {k:K} {v:Value} {r:List (K×Value)} (h:valueAt kb k=none):cP P W A s kb ((k,v)::r) false
 | hit {k:K} {v y:Value} {r:List (K×Value)} {e b:Bool} (h:valueAt kb k=some y) (he:e6 P W A s v y e) (hr:cP P W A s kb r b):cP P W A s kb ((k,v)::r) (e&&b)
def cP.inv {kb r:List (K×Value)}{k:K}{v:Value}{b:Bool}(h:cP P W A s kb ((k,v)::r) b):(valueAt kb k=none/\b=false)\/∃y e c,valueAt kb k=some y/\e6 P W A s v y e/\cP P W A s kb r c/\b=(e&&c):=by
 cases h with
 | miss h=>exact .inl ⟨h,rfl⟩
 | hit h he hr=>exact .inr ⟨_,_,_,h,he,hr,rfl⟩
theorem sX {nm:String}{a b:Addr}{ka kb:List (K×Value)}{r:Bool}{Q:Bool->Shared->Prop}(la:(a==sysModules)=false) (lb:(b==sysModules)=false) (da:s.heap.DictOf knd a ka) (db:s.heap.DictOf knd b kb)
  (hits:ka.length=kb.length->cP P W A s kb ka r) (h:Q (ka.length==kb.length&&r) s):wpAny (model P W) A (Builtin.Dict.samePairs nm a b) Q E s:=by
 obtain ⟨oa,ea,na,ga,_,qa,ha,pa,_⟩:=da
 obtain ⟨ob,eb,nb,gb,_,qb,hb,pb,_⟩:=db
 have za:ka.length=ea.size:=by rw [<-pa.length];exact Array.length_toList
 have zb:kb.length=eb.size:=by rw [<-pb.length];exact Array.length_toList
 have look:∀k,findBy knd.is eb k=valueAt kb k:=λk=>by
  rw [<-pb.find k]
  clear zb pb hb qb gb
  obtain ⟨l⟩:=eb
  simp [findBy]
 rw [za,zb] at h
 unfold Builtin.Dict.samePairs Builtin.Dict.showsAll
 rw [zH (by rw [la];decide),zH (by rw [lb];decide)]
 refine zt (zM (zt (zM (zt (wpAny_dictEntries ga qa ?_)))))
 dsimp only
 refine zt (wpAny_dictEntries gb qb ?_)
 by_cases hz:ea.size=eb.size
 ·have h':Q r s:=by simpa [hz] using h
  have hh:=hits (by rw [za,zb];exact hz)
  rw [zH (by rw [hz];simp)]
  refine zt (wpAny_dictEpoch ga qa (zt ?_))
  rw [Std.Legacy.Range.forIn_eq_forIn_range']
  simp only [Std.Legacy.Range.size,Nat.sub_zero,Nat.add_sub_cancel,Nat.div_one]
  refine wpAny_forIn_list _ (λrest q s'=>s'=s/\q=(none,())/\∃i,rest=List.range' i (ea.size-i)/\i<=ea.size/\cP P W A s kb (ka.drop i) r) _ ?_ ?_ _ _ ⟨rfl,rfl,0,by simp,jj _,hh⟩
  ·rintro x rest q s' ⟨rfl,rfl,i,hr,hi,hp⟩
   have lt:i<ea.size:=by
    rcases Nat.lt_or_ge i ea.size with c|c
    ·exact c
    ·rw [Nat.sub_eq_zero_of_le c] at hr;simp at hr
   have e0:ea.size-i=(ea.size-(i+1))+1:=by omega
   rw [e0,List.range'_succ] at hr
   injection hr with hx mj
   subst hx
   refine zt (wpAny_dictEntries ga qa ?_)
   rw [Array.getElem?_eq_getElem lt]
   have lt':x<ka.length:=by rw [za];exact lt
   obtain ⟨k,v,D9⟩:∃k v,ka[x]=(k,v):=⟨_,_,rfl⟩
   have xI:ka.drop x=(k,v)::ka.drop (x+1):=by rw [<-D9];exact jW lt'
   obtain ⟨mV,D_⟩:=pa.get? (i:=x) (e:=ea[x]) (k:=k) (v:=v) (by rw [Array.getElem?_toList];exact Array.getElem?_eq_getElem lt) (by rw [yo lt',D9])
   obtain ⟨k',xJ,hs⟩:=ha ea[x] (Array.getElem_mem lt)
   rw [knd.inj _ _ _ xJ mV] at hs
   rw [xI] at hp
   show wpAny _ _ (holding [ea[x].key,ea[x].val] _ >>= _) _ _ _
   rw [hs]
   refine zt (wn (zt (wpAny_dictFind_of mV gb qb hb ?_)))
   cases hj:eb.findIdx? λe=>knd.is k e.key with
   | none =>
    have hn:valueAt kb k=none:=by rw [<-look k,findBy_of_findIdx?,hj]
    rcases hp.inv with ⟨_,er⟩|⟨y,_,_,hy,_⟩
    ·rw [er] at h'
     refine zM ?_
     show wpAny _ _ (if (!false)=true then _ else _) _ _ _
     rw [zx (by decide)]
     exact zM (zM h')
    ·rw [hn] at hy;exact nomatch hy
   | some j =>
    obtain ⟨jl,_,_⟩:=Array.findIdx?_eq_some_iff_getElem.mp hj
    have rH:valueAt kb k=some eb[j].val:=by
     rw [<-look k,findBy_of_findIdx?,hj]
     simp [Array.getElem?_eq_getElem jl]
    refine zt (wpAny_dictEntries gb qb ?_)
    rw [Array.getElem?_eq_getElem jl]
    rcases hp.inv with ⟨hn,_⟩|⟨y,e,c,hy,he,Ea,er⟩
    ·rw [rH] at hn;exact nomatch hn
    ·have ey:eb[j].val=y:=Option.some.inj (rH.symm.trans hy)
     rw [<-ey,<-D_] at he
     refine wn (he _ _ ?_)
     cases e with
     | false =>
      rw [er,Bool.false_and] at h'
      show wpAny _ _ (if (!false)=true then _ else _) _ _ _
      rw [zx (by decide)]
      exact zM (zM h')
     | true =>
      rw [Bool.true_and] at er
      rw [<-er] at Ea
      show wpAny _ _ (if (!true)=true then _ else _) _ _ _
      rw [zH (by decide)]
      refine zt (wpAny_dictEpoch ga qa ?_)
      rw [zH (by simp)]
      exact zM ⟨rfl,rfl,x+1,mj,lt,Ea⟩
  ·rintro q s' ⟨rfl,rfl,i,hr,hi,hp⟩
   have Pg:i=ea.size:=by
    rcases Nat.lt_or_ge i ea.size with c|c
    ·have e:ea.size-i=(ea.size-(i+1))+1:=by omega
     rw [e,List.range'_succ] at hr;exact nomatch hr
    ·omega
   refine zM ?_
   rw [Pg,<-za,List.drop_length] at hp
   cases hp
   exact h'
 ·rw [zx (by simpa using hz)]
  have hf:(ea.size==eb.size)=false:=by simpa using hz
  rw [hf,Bool.false_and] at h
  exact zt (wpAny_rule (zM h))
def cG.recs {a b:Addr}{ka kb:List (K×Value)}{r:Bool}(la:(a==sysModules)=false) (lb:(b==sysModules)=false) (da:s.heap.DictOf knd a ka) (db:s.heap.DictOf knd b kb) (hu:A.units<cLine)
  (hits:ka.length=kb.length->cP P W A.in1 s kb ka r):cG P W A s (.ref a) (.ref b) (ka.length==kb.length&&r):=λE Q h=>by
 refine wpAny_richCompare_same_room (op:=.Eq) da.typeIs db.typeIs PySem.F.slot_dict_eq (wm PySem.F.slot_dict_eq da.typeIs PySem.F.entry_dict_eq ?_ (PySem.F.args_dict_eq_2 _ _)) hu
 show wpAny _ _ (Builtin.Dict.dictSlotArgs "__eq__" ⟨[.ref a,.ref b],[]⟩ >>= _) _ _ s
 refine zt ?_
 unfold Builtin.Dict.dictSlotArgs
 refine zt (wpAny_notOrdered_dict da.typeIs ?_)
 show wpAny _ _ (pure (Value.ref a,Value.ref b)) _ _ s
 refine zM (zt (wpAny_isInstance (T := "dict") db.typeIs PySem.F.sub_dict_dict ?_))
 simp only [Bool.not_true,Bool.false_eq_true,if_false]
 refine zt (zM (zt (zM (zt (sX la lb da db hits ?_)))))
 refine zM ⟨_,rfl,(λx=>nomatch x),?_⟩
 simpa using h
end
section
variable {P:Program}{W:World}
end
def xK:Option SO->Bool
 | some (.dic _ _)=>true
 | _=>false
def gf (st:aa):PV->Option Nat
 | .int _=>some 0
 | .str _=>some 1
 | .tup _=>some 2
 | .ref a=>if xK st[a]?=true then some 3 else none
 | _=>none
def mZ (f:PV->PV->Option Bool):Option SO->Option SO->Option Bool
 | some (.dic ks xs),some (.dic b_ cM)=>if ks.Nodup/\ks.length=xs.length then if ks.length=b_.length then dN f b_ cM ks xs else some false else none
 | _,_=>none
def xM:Option Nat->Option Nat->Option Bool
 | some i,some j=>if i=j then none else some false
 | _,_=>none
def eqT (st:aa):Nat->PV->PV->Option Bool
 | 0,_,_=>none
 | n+1,x,y=>match x,y with
  | .int a,.int b=>some (a==b)
  | .str a,.str b=>some (a==b)
  | .tup xs,.tup ys=>fP (eqT st n) xs ys
  | .ref a,.ref b=>mZ (eqT st n) st[a]? st[b]?
  | x,y=>xM (gf st x) (gf st y)
section
variable {X:Cx}{Er:XK}{K:Frag}{mg:Ab}{ρ:Ae}{pins:Ac}{U:L2.St}{H:Hp}{s:Shared}{st:aa}
inductive Kn (K:Frag) (mg:Ab) (ρ:Ae) (H:Hp) (st:aa):PV->V->Nat->Prop
 | num (i:Int):Kn K mg ρ H st (.int i) (.int i) 0
 | txt (z:Str):Kn K mg ρ H st (.str z) (.str z) 1
 | row {xs:An} {a:Addr} {vs:List V} (h:a9 K H a vs) (r:Rs K mg ρ H xs vs):Kn K mg ρ H st (.tup xs) (.ref a) 2
 | rec_ {n:Nat} {a:Addr} {ks:Ad} {xs:An} {vs:List V} (e:st[n]?=some (.dic ks xs)) (ha:ρ[n]?=some a) (h:H a=some (.dK (kz ks vs))) (r:Rs K mg ρ H xs vs) (l:ks.length=vs.length):Kn K mg ρ H st (.ref n) (.ref a) 3
def Kn.of (S:a7 K mg ρ H st) {x:PV}{v:V}{i:Nat}(r:R K mg ρ H x v) (h:gf st x=some i):Kn K mg ρ H st x v i:=by
 cases x with
 | int j=>cases h;cases r;exact .num j
 | str z=>cases h;cases r;exact .txt z
 | tup xs=>cases h;obtain ⟨a,vs,rfl,h1,h2⟩:=r;exact .row h1 h2
 | ref n =>
  simp only [gf] at h
  split at h
  ·rename_i hd
   cases h
   cases e:st[n]? with
   | none=>rw [e] at hd;cases hd
   | some so =>
    cases so with
    | dic ks xs =>
     obtain ⟨a,vs,rfl,ha,k1,k2,k3⟩:=R.refD S r e
     exact .rec_ e ha k1 k2 k3
    | lst _=>rw [e] at hd;cases hd
    | ins _ _ _=>rw [e] at hd;cases hd
    | fdi _ _=>rw [e] at hd;cases hd
    | dit _ _=>rw [e] at hd;cases hd
  ·cases h
 | _=>cases h
def Ph (I:Inv X pins U H s) {x y:PV}{v:V}{i j:Nat}(hx:Kn X.K mg ρ H st x v i) (hy:Kn X.K mg ρ H st y v j):i=j:=by
 cases hx with
 | num=>cases hy;rfl
 | txt=>cases hy;rfl
 | row h1 r1 =>
  cases hy with
  | row=>rfl
  | rec_ e ha h2 =>
   obtain ⟨_,_,kv,_,d⟩:=jR I.hok (.inl h2)
   obtain ⟨its,_,p,_⟩:=I.tuple h1
   exact absurd rfl (nW d p)
 | rec_ e ha h2 =>
  cases hy with
  | rec_=>rfl
  | row h1 r1 =>
   obtain ⟨_,_,kv,_,d⟩:=jR I.hok (.inl h2)
   obtain ⟨its,_,p,_⟩:=I.tuple h1
   exact absurd rfl (nW d p)
def Pj (I:Inv X pins U H s) {x y:PV}{v w:V}{u u':Value}{i j:Nat}{A:Around}(hx:Kn X.K mg ρ H st x v i) (hy:Kn X.K mg ρ H st y w j) (rv:RelV v u) (rw:RelV w u') (dq:i≠j) (hu:A.units<cLine):e6 X.prog X.w A s u u' false/\cG X.prog X.w A s u u' false:=by
 cases hx with
 | num a =>
  obtain ⟨t,rfl⟩:=rv
  cases hy with
  | num=>exact absurd rfl dq
  | txt b=>obtain ⟨t',rfl⟩:=rw;exact ⟨λE Q q=>SeqAt.EqAt.int_str a t b t' _ _ E Q q,λE Q q=>SeqAt.RcAt.int_str a t b t' _ _ E Q q⟩
  | row h1 r1 =>
   cases rw
   obtain ⟨its,_,p,_⟩:=I.tuple h1
   exact ⟨λE Q q=>SeqAt.EqAt.int_tuple a t p hu _ _ E Q q,λE Q q=>SeqAt.RcAt.int_tuple a t p hu _ _ E Q q⟩
  | rec_ e ha h2 =>
   cases rw
   obtain ⟨_,_,kv,_,d⟩:=jR I.hok (.inl h2)
   exact ⟨.of_num (.num_rec d a t hu),.num_rec d a t hu⟩
 | txt a =>
  obtain ⟨t,rfl⟩:=rv
  cases hy with
  | txt=>exact absurd rfl dq
  | num b=>obtain ⟨t',rfl⟩:=rw;exact ⟨λE Q q=>SeqAt.EqAt.str_int a t b t' _ _ E Q q,λE Q q=>SeqAt.RcAt.str_int a t b t' _ _ E Q q⟩
  | row h1 r1 =>
   cases rw
   obtain ⟨its,_,p,_⟩:=I.tuple h1
   exact ⟨λE Q q=>SeqAt.EqAt.str_tuple a t p hu _ _ E Q q,λE Q q=>SeqAt.RcAt.str_tuple a t p hu _ _ E Q q⟩
  | rec_ e ha h2 =>
   cases rw
   obtain ⟨_,_,kv,_,d⟩:=jR I.hok (.inl h2)
   exact ⟨.of_txt (.txt_rec d a t hu),.txt_rec d a t hu⟩
 | row h0 r0 =>
  cases rv
  obtain ⟨its,_,p,_⟩:=I.tuple h0
  cases hy with
  | row=>exact absurd rfl dq
  | num b=>obtain ⟨t',rfl⟩:=rw;exact ⟨λE Q q=>SeqAt.EqAt.tuple_int b t' p hu _ _ E Q q,λE Q q=>SeqAt.RcAt.tuple_int b t' p hu _ _ E Q q⟩
  | txt b=>obtain ⟨t',rfl⟩:=rw;exact ⟨λE Q q=>SeqAt.EqAt.tuple_str b t' p hu _ _ E Q q,λE Q q=>SeqAt.RcAt.tuple_str b t' p hu _ _ E Q q⟩
  | rec_ e ha h2 =>
   cases rw
   obtain ⟨_,_,kv,_,d⟩:=jR I.hok (.inl h2)
   have ne:=nW d p
   exact ⟨.of_ref (λz=>ne (by injection z with z;exact z.symm)) (.row_rec d p hu),.row_rec d p hu⟩
 | rec_ e0 Yx h0 =>
  cases rv
  obtain ⟨_,_,kv,_,d⟩:=jR I.hok (.inl h0)
  cases hy with
  | rec_=>exact absurd rfl dq
  | num b=>obtain ⟨t',rfl⟩:=rw;exact ⟨.of_ref nofun (.rec_num d b t' hu),.rec_num d b t' hu⟩
  | txt b=>obtain ⟨t',rfl⟩:=rw;exact ⟨.of_ref nofun (.rec_txt d b t' hu),.rec_txt d b t' hu⟩
  | row h1 r1 =>
   cases rw
   obtain ⟨its,_,p,_⟩:=I.tuple h1
   have ne:=nW d p
   exact ⟨.of_ref (λz=>ne (by injection z)) (.rec_row d p hu),.rec_row d p hu⟩
def Pk {a b:Option Nat}{k:Bool}(h:xM a b=some k):∃i j,a=some i/\b=some j/\i≠j/\k=false:=by
 unfold xM at h
 split at h
 ·split at h
  ·cases h
  ·rename_i i j c;cases h;exact ⟨i,j,rfl,rfl,c,rfl⟩
 ·cases h
inductive nX (st:aa) (f:PV->PV->Option Bool):PV->PV->Bool->Prop
 | num (a b:Int):nX st f (.int a) (.int b) (a==b)
 | txt (a b:Str):nX st f (.str a) (.str b) (a==b)
 | row {xs ys:An} {k:Bool} (h:fP f xs ys=some k):nX st f (.tup xs) (.tup ys) k
 | rec_ {a b:Nat} {k:Bool} (h:mZ f st[a]? st[b]?=some k):nX st f (.ref a) (.ref b) k
 | apart {x y:PV} {i j:Nat} (hx:gf st x=some i) (hy:gf st y=some j) (h:i≠j):nX st f x y false
def ziu {n:Nat}{x y:PV}{k:Bool}(h:eqT st (n+1) x y=some k):nX st (eqT st n) x y k:=by
 unfold eqT at h
 split at h
 ·cases h;exact .num _ _
 ·cases h;exact .txt _ _
 ·exact .row h
 ·exact .rec_ h
 ·obtain ⟨i,j,h1,h2,h3,rfl⟩:=Pk h
  exact .apart h1 h2 h3
def Eb {f:PV->PV->Option Bool}{a b:Option SO}{k:Bool}(h:mZ f a b=some k):∃ks xs b_ cM,a=some (.dic ks xs)/\b=some (.dic b_ cM)/\ks.Nodup/\ks.length=xs.length/\((ks.length=b_.length/\dN f b_ cM ks xs=some k)\/(ks.length≠b_.length/\k=false)):=by
 unfold mZ at h
 split at h
 ·rename_i ks xs b_ cM
  split at h
  ·rename_i c
   split at h
   ·rename_i c';exact ⟨_,_,_,_,rfl,rfl,c.1,c.2,.inl ⟨c',h⟩⟩
   ·rename_i c';cases h;exact ⟨_,_,_,_,rfl,rfl,c.1,c.2,.inr ⟨c',rfl⟩⟩
  ·cases h
 ·cases h
def Ec (I:Inv X pins U H s) (S:a7 X.K mg ρ H st):∀(n:Nat) (x y:PV) (v:V) (b:Bool),eqT st n x y=some b->R X.K mg ρ H x v->R X.K mg ρ H y v->b=true:=by
 intro n
 induction n with
 | zero=>intro x y v b h;cases h
 | succ n ih =>
  intro x y v b h rx ry
  cases ziu h with
  | num a c=>cases rx;cases ry;simp
  | txt a c=>cases rx;cases ry;simp
  | row h0 =>
   obtain ⟨a,vs,rfl,h1,h2⟩:=rx
   obtain ⟨a',ws,e,h3,h4⟩:=ry
   cases e
   have:=I.tuple_inj h1 h3
   subst this
   exact DX (λx y v b=>ih x y v b) h0 h2 h4
  | @rec_ i j _ h0 =>
   obtain ⟨a,rfl,h1⟩:=rx
   obtain ⟨a',e,h2⟩:=ry
   cases e
   obtain rfl:=O9 S.nd h1 h2
   obtain ⟨ks,xs,b_,cM,e1,e2,nd,hl,hc⟩:=Eb h0
   rw [e1] at e2
   cases e2
   obtain ⟨vs,_,k2,_⟩:=S.addr e1 h1
   rcases hc with ⟨_,hc⟩|⟨hc,_⟩
   ·exact DY (λx v b e r=>ih x x v b e r r) (DZ nd) hc k2
   ·exact absurd rfl hc
  | apart hx hy dq=>exact absurd (Ph I (Kn.of S rx hx) (Kn.of S ry hy)) dq
theorem Ed {A:Around}{f:PV->PV->Option Bool}(hf:∀x y v w u u' b,f x y=some b->R K mg ρ H x v->R K mg ρ H y w->RelV v u->RelV w u'->e6 X.prog X.w A s u u' b) {b_:Ad}{cM:An}{ws:List V}{kb:List (Key×Value)}(r':Rs K mg ρ H cM ws) (Ee:KV (kz b_ ws) kb) :
  ∀{ks:Ad} {xs:An} {vs:List V} {ka:List (Key×Value)} {b:Bool},ks.length=vs.length->Rs K mg ρ H xs vs->KV (kz ks vs) ka->dN f b_ cM ks xs=some b->cP X.prog X.w A s kb ka b
 | [],xs,[],ka,b,_,_,kv,h=>by
  have:b=true:=by cases xs<;>(cases h;rfl)
  subst this
  cases kv
  exact .nil
 | [],xs,_::_,ka,b,hl,_,_,_=>by simp at hl
 | k::ks,xs,[],ka,b,hl,_,_,_=>by simp at hl
 | k::ks,xs,v::vs,ka,b,hl,r,kv,h=>by
  obtain ⟨u,Yy,rfl,ru,Pl⟩:=Pb kv
  cases xs with
  | nil=>cases r
  | cons x xs =>
   obtain ⟨v',Yz,e,r1,r2⟩:=r
   cases e
   simp only [dN] at h
   have hv:=Ee.val (Sum.inr k)
   rw [xt] at hv
   cases hl2:(b_.zip cM).lookup k with
   | none =>
    rw [hl2] at h
    cases h
    rw [D1 r' hl2] at hv
    cases hu:valueAt kb (Sum.inr k) with
    | none=>exact .miss hu
    | some _=>rw [hu] at hv;exact (show False from hv).elim
   | some y =>
    rw [hl2] at h
    simp only at h
    cases h1:f x y with
    | none=>rw [h1] at h;cases h
    | some a =>
     cases h2:dN f b_ cM ks xs with
     | none=>rw [h1,h2] at h;cases h
     | some c =>
      rw [h1,h2] at h
      cases h
      obtain ⟨w,hw,dn⟩:=nO r' hl2
      rw [hw] at hv
      cases hu:valueAt kb (Sum.inr k) with
      | none=>rw [hu] at hv;exact (show False from hv).elim
      | some u' =>
       rw [hu] at hv
       exact .hit hu (hf x y v w u u' a h1 r1 dn ru hv) (Ed hf r' Ee (by simpa using hl) r2 Pl h2)
theorem Pm (I:Inv X pins U H s) (S:a7 X.K mg ρ H st):∀(n:Nat) (x y:PV) (v w:V) (u u':Value) (b:Bool) (A:Around),eqT st n x y=some b->R X.K mg ρ H x v->R X.K mg ρ H y w->RelV v u->RelV w u'->A.units+n<cLine ->
  e6 X.prog X.w A s u u' b/\cG X.prog X.w A s u u' b:=by
 intro n
 induction n with
 | zero=>intro x y v w u u' b A h;cases h
 | succ n ih =>
  intro x y v w u u' b A h rx ry rv rw hu
  cases ziu h with
  | num a c=>cases rx;cases ry;obtain ⟨t,rfl⟩:=rv;obtain ⟨t',rfl⟩:=rw;exact ⟨λE Q q=>SeqAt.EqAt.int_int a t c t' _ _ E Q q,λE Q q=>SeqAt.RcAt.int_int a t c t' _ _ E Q q⟩
  | txt a c=>cases rx;cases ry;obtain ⟨t,rfl⟩:=rv;obtain ⟨t',rfl⟩:=rw;exact ⟨λE Q q=>SeqAt.EqAt.str_str a t c t' _ _ E Q q,λE Q q=>SeqAt.RcAt.str_str a t c t' _ _ E Q q⟩
  | row h0 =>
   obtain ⟨a,vs,rfl,h1,h2⟩:=id rx
   obtain ⟨a',ws,rfl,h3,h4⟩:=id ry
   cases rv
   cases rw
   obtain ⟨its,r1,p1,_⟩:=I.tuple h1
   obtain ⟨aU,r2,p2,_⟩:=I.tuple h3
   obtain ⟨e,he,hb⟩:=DW h0
   have it:=Pc (G:=e6 X.prog X.w A.in1 s) (λx y v w u u' b e r1 r2 r3 r4=>(ih x y v w u u' b A.in1 e r1 r2 r3 r4 (by rw [sx];omega)).1) h2 h4 r1 r2 he
   have eb:((List.range (min its.toArray.size aU.toArray.size)).all e&&its.toArray.size==aU.toArray.size)=b:=by
    rw [h2.len,h4.len,r1.length,r2.length] at hb
    simpa using hb
   have rc:cG X.prog X.w A s (.ref a) (.ref a') b:=by
    rw [<-eb]
    exact cG.tuples (show s.heap.IsTuple a its.toArray from p1) (show s.heap.IsTuple a' aU.toArray from p2) (by omega) it
   refine ⟨?_,rc⟩
   by_cases eZ:a=a'
   ·subst eZ
    rw [Ec I S (n+1) _ _ _ _ h rx ry]
    exact λE Q q=>SeqAt.EqAt.same _ _ _ E Q q
   ·exact .of_refs eZ rc
  | @rec_ i j _ h0 =>
   obtain ⟨a,rfl,h1⟩:=id rx
   obtain ⟨a',rfl,h2⟩:=id ry
   cases rv
   cases rw
   obtain ⟨ks,xs,b_,cM,e1,e2,nd,hl,hc⟩:=Eb h0
   obtain ⟨vs,k1,k2,k3⟩:=S.addr e1 h1
   obtain ⟨ws,k4,k5,k6⟩:=S.addr e2 h2
   obtain ⟨_,s1,ka,Ef,da⟩:=jR I.hok (.inl k1)
   obtain ⟨_,s2,kb,Eg,db⟩:=jR I.hok (.inl k4)
   have la:ka.length=ks.length:=by rw [<-Ef.length];simp [kz,k3]
   have lb:kb.length=b_.length:=by rw [<-Eg.length];simp [kz,k6]
   have both:cG X.prog X.w A s (.ref a) (.ref a') b:=by
    rcases hc with ⟨sY,hc⟩|⟨sY,rfl⟩
    ·have hits:ka.length=kb.length->cP X.prog X.w A.in1 s kb ka b:=λ_=>Ed (λx y v w u u' b e r1 r2 r3 r4=>(ih x y v w u u' b A.in1 e r1 r2 r3 r4 (by rw [sx];omega)).1) k5 Eg k3 k2 Ef hc
     have pf:(ka.length==kb.length&&b)=b:=by rw [la,lb,sY];simp
     rw [<-pf]
     exact cG.recs s1 s2 da db (by omega) hits
    ·have pf:(ka.length==kb.length&&true)=false:=by rw [la,lb];simpa using sY
     rw [<-pf]
     exact cG.recs s1 s2 da db (by omega) λz=>absurd (by rw [<-la,<-lb];exact z) sY
   refine ⟨?_,both⟩
   by_cases eZ:a=a'
   ·subst eZ
    rw [Ec I S (n+1) _ _ _ _ h rx ry]
    exact λE Q q=>SeqAt.EqAt.same _ _ _ E Q q
   ·exact .of_refs eZ both
  | apart hx hy dq=>exact Pj I (Kn.of S rx hx) (Kn.of S ry hy) rv rw dq (by omega)
def nY:Am:=λx y st=>match eqT st 150 x y with
 | some b=>.ok (.bl b) st
 | none=>.stuck
def Pn (K:Frag) (mg:Ab):R2:=λv w H Q=>∃ρ st x y b,a7 K mg ρ H st/\eqT st 150 x y=some b/\R K mg ρ H x v/\R K mg ρ H y w/\Q (.bl b) H
theorem Po (hu:X.A.units+200<cLine):ba X (compareOp .Eq) (Pn X.K X.mg):=by
 intro pins s U H x y v u Q I rx ry h
 obtain ⟨ρ,st,a,b,k,S,e,ra,rb,q⟩:=h
 exact (Pm I S 150 a b x y v u k X.A e ra rb rx ry (by omega)).2 _ _ ⟨.bl k,H,I,rfl,q⟩
def ze5 (hu:X.A.units+200<cLine):bJ X .Eq nY:=⟨_,Po hu,fun ρ H st x y v w Q E s rx ry h=>by
 unfold nY at h
 cases e:eqT st 150 x y with
 | none=>rw [e] at h;exact h.elim
 | some b=>rw [e] at h;exact ⟨ρ,st,x,y,b,s,e,rx,ry,h.now s _ rfl⟩⟩
end
section
variable {X:Cx}{Er:XK}{K:Frag}{mg:Ab}{ρ:Ae}{pins:Ac}{U:L2.St}{H:Hp}{s:Shared}{st:aa}{o:Expr}{fo:Ai}{apos a_ p0 XH:Pos}
open Classical in
noncomputable def XI (K:Frag) (mg:Ab) (ρ:Ae) (H:Hp) (st:aa) (ys:An) (x:PV) (u:Value):Bool:=decide (∃y v,y∈ys/\R K mg ρ H y v/\RelV v u/\eqT st 150 y x=some true)
open Classical in
end
end Mi
namespace L2
open PySem PySem.Spec PyProof.Rows
def Pp (iy:Nat) (wi:TI) (te:TE):TS:=λD U H=>wi U H λJ H1=>lM J te U (λv H2=>D.nx (U.set iy (some v)) H2) H1
theorem Pq {X:Cx} {elt iter:Expr} {x y:Str} {px pos pos' gk:Pos} {scope:Scope} {wi:TI} {te:TE} {M:Ad} {iy:Nat} (hc:X.calm=true) (S:di X.env.scope scope x) (eN:Hid scope M X.N) (cv:((".0" : Str)::x::M).Nodup)
  (hi:PI X (.Name x px) iter wi) (he:∀cl C af ah fp,PE (km X M scope cl x C af ah fp (λ_ _=>False)) elt te) (qd:X.N.Nodup) (qe:X.N[iy]?=some y) (hy:Loc X.env.scope y) (qf:X.fn y=true\/X.env.scope.names.lookup y=some .local)
  (qg:swapsWith (.ListComp elt [⟨.Name x px,iter,[],0⟩] scope pos) (some (.Name y pos')) gk.line X.env=pure true) (hs:∀v,foldedSetIterable iter X.env v=pure v:=by intro _;rfl):PS X (.Assign [.Name y pos'] (.ListComp elt [⟨.Name x px,iter,[],0⟩] scope pos) gk) (Pp iy wi te):=by
 intro pins s U H Dn I h
 have hN:(x::M).Nodup:=(jI.mp cv).2
 have vp:(".0" : Str)∉M:=λz=>(jI.mp cv).1 (jq _ z)
 obtain ⟨cl,lP,cV,kr⟩:=Cr X.env scope λp hp hf=>I.ok.has p.1 (.inl (S.free p hp hf))
 have lQ:X.env.scope.kind=.function:=I.ok.kind
 rw [exec_Assign_Name_used _ _ _ _ qg]
 refine zt (wpAny_standAt ?_)
 rw [arm_evalThenUse_ListComp]
 refine zt (zt (wpAny_comprehension_free (Q:=λ_ s'=>wpAny (model X.prog X.w) X.A (pure ():Sem Unit) (λ_ s'=>wpAny (model X.prog X.w) X.A (pure .next:Sem Flow) (SP X pins Dn) X.xe s') X.xe s') (use:=some (assign (.Name y pos') X.env)) rfl hs lP S.kind (λy hy hl=>(S.names y hy hl).1) ?_))
 refine aV (hi pins s U H _ I h) λv s1 h1=>aV h1 λrB af h2=>?_
 obtain ⟨it,fp,tn,J,H2,e,I2,T,aA,f2,W,⟨m0,w0⟩,turn⟩:=h2
 subst e
 refine hW (wpAny_newFunctionEnv S.ncell (by intro y hy;simp at hy) (λaz aF aB=>?_) S.kind)
 dsimp only at aF aB ⊢
 generalize hH2:af.heap.push { cls:=.type "list", dict:=none,data:=.seq ([]:Af).toArray }=G2 at aF aB ⊢
 have hC:G2.objs.size=af.heap.objs.size+1:=by rw [<-hH2,Heap.size_push]
 have gX:af.heap.objs.size≠G2.objs.size:=by rw [hC];exact yK (jK _)
 have Cz:af.heap.objs.size<=G2.objs.size:=by rw [hC];exact Nat.le_succ _
 have old:∀b o,af.heap.get? b=some o->az.get? b=some o:=λb o e=>by
  have hb:b≠G2.objs.size:=by rw [hC];exact yK (Nat.lt_succ_of_lt (ym e))
  exact aB.extBut b o hb (yk _ (hH2▸yk _ e))
 have fJ:az.get? af.heap.objs.size=some { cls:=.type "list", data:=.seq (#[]:Array Value) 0 }:=aB.extBut _ _ gX (yk _ (hH2▸yY _ rfl))
 generalize hD:af.heap.objs.size=D at *
 generalize hCC:G2.objs.size=C at *
 have eX:∀{b:Nat} {o:Obj},af.heap.get? b=some o->b<D:=λe=>by rw [<-hD];exact ym e
 have nofr:∀b,D<=b->b∉cT X.stack:=λb hb z=>by
  rcases yF.mp (I2.stkSub b z) with q|q
  ·exact Cn I2.lt hD hb q
  ·exact I2.nofs (by rw [hD];exact hb) q
 let E':Aa:=notedBy (model X.prog X.w) X.A (compEnvC scope cl C X.env) λe s'=>compPost (model X.prog X.w) X.A X.xe (some (assign (.Name y pos') X.env)) (λ_ s'=>wpAny (model X.prog X.w) X.A (pure ():Sem Unit) (λ_ s'=>wpAny (model X.prog X.w) X.A (pure .next:Sem Flow) (SP X pins Dn) X.xe s') X.xe s') (.ref D) C (.error e) s'
 let Y:Cx:=km X M scope cl x C af H2 fp E'
 have dI:∀b∈fp,cU X pins H2 b:=f2
 have lR:Y.Ok:=by
  refine ⟨I2.ok.mod,S.kind,I2.ok.glob,I2.ok.blt,(by show af.heap.objs.size<=C;omega),λy z c h1 h2=>?_,λy hy=>?_,λy c hf=>?_,I2.ok.hd,I2.ok.frames,.inl rfl,λb hb=>?_,I2.bs,y4 I2.ok.bsz I2.sz,λb o hb hx=>?_,λb hb hx=>?_,I2.stack,I2.stkFree⟩
  ·exact I2.ok.inj y z c (cV y c h1) (cV z c h2)
  ·exact kr y (vi S lQ hy)
  ·cases hf
  ·refine ⟨λz=>?_,λy c hy=>(dI b hb).2.2.2.2.1 y c (cV y c hy)⟩
   obtain ⟨o,ho,_⟩:=T.obj 0 _ aA b hb
   exact lK (eX ho) hC z
  ·rcases (dI b hx).2.2.2.1 with z|z
   ·exact I2.ok.noex b o hb z
   ·exact Co (ym hb) I2.ok.bsz z
  ·rcases yF.mp (I2.stkSub b hx) with q|q
   ·exact (dI b hb).2.1 q
   ·exact (dI b hb).2.2.1 q
 have f6:∀{s':Shared} {H':Hp} {o:Obj},s'.heap.get? D=some o->H' D=none->(∀v,o.data ≠ .cell v)->∀p∈[(D,o)],s'.heap.get? p.1=some p.2/\H' p.1=none/\p.1≠Y.env.locals/\p.1∉Y.fs/\∀v,p.2.data ≠ .cell v:=λ{s' H' o} e1 e2 e3 p hp=>by
  have ep:p=(D,o):=by simpa using hp
  subst ep
  exact ⟨e1,e2,gX,nofr D (ye _),e3⟩
 have I0:Inv Y [(D,{ cls:=.type "list", data:=.seq (#[]:Array Value) 0 })] (none::U) H2 { af with heap:=az,toks:=af.toks+([]:List (Str×Value)).length }:=by
  have fresh:∀b,D<=b->H2 b=none:=λb hb=>I2.hok.fresh (by rw [hD];exact hb)
  refine ⟨lR,rfl,I2.bare,Un.kept old,⟨_,aF,λi y v e1 e2 e3=>?_⟩,λy c hy=>?_,fresh C (by omega),λy c hy=>I2.freeC y c (cV y c hy),λp hp=>f6 fJ (fresh D (ye _)) (λv z=>by cases z) p hp,I2.hok.kept old,?_⟩
  ·cases i with
   | zero=>simp at e2
   | succ i =>
    have ph:M[i]?=some y:=by simpa [Y,km] using e1
    have vq:X.N[i]?=some y:=by
     rcases eN.get ph with q|q
     ·exact q
     ·refine absurd ?_ q
      rcases e3 with e3|e3|e3<;>(obtain ⟨k0,hm,_⟩:=ko e3;exact jE.mpr ⟨_,hm,rfl⟩)
    have vt:U[i]?=some (some v):=by simpa using e2
    have ku:¬(y=x\/y = ".0"):=λz=>by
     have hm:=ly ph
     rcases z with z|z
     ·rw [z] at hm
      exact (jI.mp hN).1 hm
     ·rw [z] at hm
      exact vp hm
    have d0:(y,NameKind.free)∈scope.names:=by
     rcases e3 with e3|e3|e3
     ·exact absurd (Ct S e3) ku
     ·exact vi S lQ (.inl e3)
     ·exact vi S lQ (.inr e3)
    have pj:X.env.scope.names.lookup y=some .cell:=S.free _ d0 rfl
    obtain ⟨m,hn,hl⟩:=I2.loc
    obtain ⟨u,r,l⟩:=hl i y v vq vt (.inr (.inl pj))
    refine ⟨u,r,?_⟩
    rcases l with ⟨hk,_⟩|⟨_,c,nk,d8⟩
    ·have:X.env.kindOf y=some .cell:=pj
     rw [this] at hk;cases hk
    ·obtain ⟨c',cQ⟩:=kr y d0
     have:=cV y c' cQ
     rw [nk] at this
     cases this
     refine .inr ⟨?_,c,cQ,?_⟩
     ·rcases e3 with e3|e3|e3
      ·exact absurd (Ct S e3) ku
      ·exact .inl e3
      ·exact .inr e3
     ·obtain ⟨o,ho,hd⟩:=d8
      exact ⟨o,old c o ho,hd⟩
  ·obtain ⟨v,o,ho,hd⟩:=I2.cell y c (cV y c hy)
   exact ⟨v,o,old c o ho,hd⟩
  ·show (none::U).length=(x::M).length
   simp [I2.len,eN.1]
 have lS:∀{pl:Ac} {H':Hp},(∀p∈pl,p.1=D)->(∀b∈fp,H' b=none)->∀b∈fp,cU Y pl H' b:=λ{pl H'} bu hn b hb=>by
  obtain ⟨o,ho,_⟩:=T.obj 0 _ aA b hb
  refine ⟨hn b hb,λz=>?_,?_,.inl hb,(lR.exf b hb).2,λp hp z=>?_⟩
  ·exact lK (eX ho) hC z
  ·exact lR.exfs b hb
  ·have hp':p∈pl:=by simpa [Y,km] using hp
   exact Cp (eX ho) (bu p hp') z
 have loop:codeAny (model X.prog X.w) X.A (.compLoop (.ListComp elt [⟨.Name x px,iter,[],0⟩] scope pos) 0 (.ref it) (.ref D) (compEnvC scope cl C X.env))
   (compPost (model X.prog X.w) X.A X.xe (some (assign (.Name y pos') X.env)) (λ_ s'=>wpAny (model X.prog X.w) X.A (pure ():Sem Unit) (λ_ s'=>wpAny (model X.prog X.w) X.A (pure .next:Sem Flow) (SP X pins Dn) X.xe s') X.xe s') (.ref D) C) { af with heap:=az,toks:=af.toks+([]:List (Str×Value)).length }:=by
  refine Ln (λn s'=>∃i ys H' its k,Inv Y [(D,{ cls:=.type "list", data:=.seq (its:Af).toArray k })] (none::U) H' s'/\Vals ys its/\tn i s'.heap/\(∀b∈fp,H' b=none)/\W i n ys H') ?_ m0
   ⟨0,[],H2,[],0,I0,.nil,T.keep 0 _ _ aA (λb hb o e=>old b o e),λb hb=>(dI b hb).1,w0⟩
  rintro n s3 ⟨i,ys,H3,its,k,I3,rv,a0,kg,w3⟩
  have gA:∀{o:Obj},∀p∈[(D,o)],p.1=D:=λ{o} p hp=>by
   have ep:p=(D,o):=by simpa using hp
   rw [ep]
  obtain ⟨gD,nD,_,_,_⟩:=I3.pin (D,_) (yN _ jd)
  rcases turn i n ys H3 w3 with ⟨stop,hz,q⟩|⟨go,hz,step⟩
  ·refine aV (T.done Y rfl rfl rfl hc i _ s3 _ H3 E' I3 (lS gA kg) a0 stop) λr s4 ⟨hr,I4⟩=>?_
   subst hr
   obtain ⟨vv,lU,_,_,_⟩:=I4.pin (D,_) (yN _ jd)
   obtain ⟨m4,vw,_⟩:=id I4.loc
   have fin:∀h',Heap.SameBut C s4.heap h'->Inv X pins U (upd H3 D (.lst ys)) { s4 with heap:=h' }:=λh' dJ=>by
    have gT:∀{b:Addr} {u:HO},H3 b=some u->b≠C:=λe z=>by
     have:H3 C=none:=I4.free
     rw [z,this] at e;cases e
    refine I2.call' (s':={ s4 with heap:=h' }) (ch:=fp) (H':=upd H3 D (.lst ys)) I4.os ?_ ?_ I4.bare λb hb=>⟨(dI b hb).2.2.2.1,(dI b hb).2.1,(dI b hb).2.2.2.2.1,(dI b hb).2.2.2.2.2⟩
    ·have B:=I4.base
     have lV:∀{b:Nat} {o:Obj},af.heap.get? b=some o->b≠C:=λe z=>lK (eX e) hC z
     have lW:∀{b:Addr} {u:HO},H3 b=some u->b≠D:=λe z=>by rw [z,lU] at e;cases e
     refine ⟨λb o e nn hb hx=>(dJ.2 b (lV e)).trans (B.keep b o e nn hb hx),λb o e nn hb hx=>?_,λb o e nn hx=>?_,λb o e hx=>?_,λb xs e=>?_,λb o u e=>?_,λb ps e=>?_⟩
     ·obtain ⟨sl,z⟩:=B.slot b o e nn hb hx
      exact ⟨sl,(dJ.2 b (lV e)).trans z⟩
     ·have vx:b≠D:=yK (eX e)
      rw [yc vx]
      exact B.free b o e nn hx
     ·obtain ⟨o',z⟩:=B.there b o e hx
      exact ⟨o',(dJ.2 b (lV e)).trans z⟩
     ·have z:=B.tups b xs e
      rw [yc (lW z)];exact z
     ·have z:=B.frzs b o u e
      rw [yc (lW z)];exact z
     ·obtain ⟨more,z⟩:=B.tbls b ps e
      exact ⟨more,by rw [yc (lW z)];exact z⟩
    ·intro a o e
     by_cases ha:a=D
     ·subst ha
      rw [y0] at e
      cases e
      exact ⟨hz,its,k,rv,(dJ.2 _ gX).trans vv⟩
     ·rw [yc ha] at e
      have fK:∀b u,H3 b=some u->(upd H3 D (.lst ys)) b=some u:=λb u z=>by
       have hb:b≠D:=λw=>by rw [w,lU] at z;cases z
       rw [yc hb];exact z
      refine (I4.hok a o e).stay (λb u hb z=>(dJ.2 b ?_).trans z) (λb z=>fK b _ z) λb xs z=>fK b _ z
      rcases hb with hb|hb
      ·rw [hb];exact gT e
      ·exact gT hb
   have Pr:C≠D:=λz=>gX z.symm
   have IX:=fin s4.heap ⟨rfl,λ_ _=>rfl⟩
   obtain ⟨oC,eC,pC,gC,rC⟩:=id vw
   have Eh:upd H3 D (.lst ys) C=none:=by rw [yc Pr];exact I4.free
   have xN:∀b o,af.heap.get? b=some o->b≠C:=λb o e z=>lK (eX e) hC z
   have sZ:C≠X.env.locals:=λz=>by
    obtain ⟨m2,gU,_⟩:=id I2.loc
    obtain ⟨o2,_,_,g2,_⟩:=gU
    exact xN _ _ g2 z.symm
   have Pt:C∉X.fs:=I2.nofs (by rw [hD];omega)
   have IP:Inv X (pins++[(C,oC)]) U (upd H3 D (.lst ys)) s4:=IX.pins_of λp hp=>by
    rcases ju.mp hp with hp|hp
    ·exact IX.pin p (yN _ hp)
    ·have ep:p=(C,oC):=by simpa using hp
     subst ep
     exact ⟨gC,Eh,sZ,Pt,λv z=>by rw [rC.1] at z;cases z⟩
   show wpAny _ _ (assign (.Name y pos') X.env (.ref D)) _ _ s4
   have bH:wpAny (model X.prog X.w) X.A (assign (.Name y pos') X.env (.ref D)) (λ_ s5=>Inv X (pins++[(C,oC)]) (U.set iy (some (.ref D))) (upd H3 D (.lst ys)) s5) X.xe s4:=wpAny_assign_Name (oQ IP qd qe hy (v:=.ref D) rfl (λs5 I5=>I5) qf)
   refine aV bH λ_ s5 I5=>?_
   have g5:=(I5.pin (C,oC) (yN _ (yN _ jd))).1
   refine ⟨m4,⟨oC,eC,pC,g5,rC⟩,λYA dJ=>zM (zM ⟨_,_,?_,q D lU⟩)⟩
   exact (I5.pins_of (pins':=pins) λp hp=>I5.pin p (yN _ (j4 _ hp))).turned (it:=C) (t':=s5.toks) (λb o hb e=>(dJ.2 b hb).trans e) Eh sZ
    (.inr (by have:=I2.sz;rw [hD] at this;omega)) (λa c ha z=>by
     obtain ⟨v',o',ho',_⟩:=I2.cell a c ha
     exact xN _ _ ho' z) (λp hp=>xN _ _ (I2.pin p hp).1)
  ·refine aV (T.item Y rfl rfl rfl hc i _ s3 _ H3 E' I3 (lS gA kg) a0 go) λr s4 ⟨u,hr,h4⟩=>?_
   subst hr
   refine aV h4 λ_ s5 ⟨z,H5,I5,r5,y5,dm,oV⟩=>?_
   have oW:=I5.pinned (lS gA oV) (T.obj _ _ dm)
   have f7:PG Y (.Name x px) (jX 0):=wq (X:=Y) hN rfl (.inl (jx S.hx)) (.inr (jx S.hx))
   have vy:PE Y elt te:=PE.nox (X:=Y) (he cl C af H2 fp)
   refine aV (f7 _ s5 (none::U) H5 z u (λai H'=>ai=some z::U/\H'=H5) oW r5 ⟨rfl,rfl⟩) λ_ s6 ⟨aI,H6,I6,e1,e2⟩=>?_
   subst e1 e2
   refine aV (vy _ s6 _ _ _ I6 (step z _ y5)) λuy s7 ⟨y,H7,I7,ry,m',hm,w7⟩=>?_
   obtain ⟨pq,lX,_,_,_⟩:=I7.pin (D,_) (yN _ (j4 _ jd))
   refine wpAny_list_append_plain ⟨k,pq⟩ (λh' bu dJ=>?_) (by rw [yQ,<-rv.length];exact hz)
   obtain ⟨k',pv⟩:=bu
   have I8:Inv Y [] (some z::U) H7 { s7 with heap:=h' }:=(I7.pins_of (pins':=[]) (λp hp=>nomatch hp)).turned (it:=D) (t':=s7.toks) (λb o hb e=>(dJ.2 b hb).trans e) lX gX
    (.inr (by show af.heap.objs.size<=D;omega)) (λa c hy vz=>by
     obtain ⟨v',o',ho',_⟩:=I2.cell a c (cV a c hy)
     exact yK (eX ho') vz) (λp hp=>by simp [Y,km] at hp)
   have I9:Inv Y [] (none::U) H7 { s7 with heap:=h' }:=I8.weak (by simp) λj v e=>by
    cases j with
    | zero=>simp at e
    | succ j=>simpa using e
   have d9:∀b∈fp,∃o,s5.heap.get? b=some o/\s7.heap.get? b=some o/\H7 b=none:=λb hb=>by
    obtain ⟨o,e,_⟩:=T.obj _ _ dm b hb
    have q:=I7.pin (b,o) (yN _ (yN _ (oU hb e)))
    exact ⟨o,e,q.1,q.2.1⟩
   have vA:∀b∈fp,b≠D:=λb hb=>by
    obtain ⟨o,ho,_⟩:=T.obj 0 _ aA b hb
    exact yK (eX ho)
   have eT:its.toArray.push uy=(its++[uy]).toArray:=by simp
   rw [eT] at pv
   refine ⟨m',hm,i+1,ys++[y],H7,its++[uy],k',I9.pins_of (f6 pv lX λv e=>by cases e),rv.append (.cons ry .nil),T.keep (i+1) _ _ dm λb hb o e=>?_,λb hb=>?_,w7⟩
   ·obtain ⟨o',e1,e2,_⟩:=d9 b hb
    rw [e] at e1
    cases e1
    exact (dJ.2 b (vA b hb)).trans e2
   ·obtain ⟨_,_,_,q⟩:=d9 b hb
    exact q
 exact codeAny_compStart_list loop (T.self X.A 0 _ _ _ (T.keep 0 _ _ aA (λb hb o e=>old b o e)) loop)
end L2
namespace Mi
open PySem L2 PySem.W PySem.Spec
section
variable {X:Cx}{Er:XK}{pos:Pos}
def Ei (X:Cx) (Er:XK) (src:zd->Mo Sq):TI:=λU H R=>∃env st ρ,a8 X.K X.mg ρ H env U/\a7 X.K X.mg ρ H st/\Out X.K X.mg ρ H (src env st) (λaj H' q bx=>∀J,Walk X.K X.mg J aj H' q->R J H') Er
def Pu {src:zd->Mo Sq}{fe:Ai}(U:L2.St) (H:Hp) (Q:VK) (hh:tM X.K X.mg Er (y8 src fe) U H Q):Cu (Ei X Er src) (tM X.K X.mg XN fe) U H Q:=by
 obtain ⟨env,st,ρ,re,rs,h⟩:=hh
 refine ⟨env,st,ρ,re,rs,h.then λar H0 q df e0 s0 h0 J wk=>?_⟩
 cases q with
 | im xs =>
  obtain ⟨hl,h0⟩:=Out.ifp h0
  obtain ⟨w1,w2,w3⟩:=wk
  refine ⟨λi m ys H=>m=xs.length-i/\i<=xs.length/\ys.length=i/\∃ps st ρ,Rs X.K X.mg ρ H ps ys/\a7 X.K X.mg ρ H st/\Ext ar H0 ρ H/\Out X.K X.mg ρ H (cO fe env (xs.drop i) ps st) (gV X.K X.mg Q) Er,⟨xs.length,by simp,jj _,rfl,[],df,ar,rfl,s0,Ext.refl,h0⟩,?_⟩
  rintro i m ys H ⟨rfl,hi,hy,ps,st,ρ,cw,rs,ex,h⟩
  by_cases bw:i<xs.length
  ·refine .inr ⟨w1 i ρ H ex bw,yR (by omega),λv H' y=>?_⟩
   obtain ⟨x,hx,bD,s2,rx⟩:=w3 i ρ H st v H' ex rs bw y
   have hd:xs.drop i=x::xs.drop (i+1):=by
    rw [jW bw]
    have:=(yv.mp hx).2
    rw [this]
   rw [hd] at h
   simp only [cO] at h
   refine ⟨some x::env,st,ρ,(re.ext (e0.trans (ex.trans bD))).cons rx,s2,jC (Out.ext h bD) λak H3 y a0 e3 s3 h3 v ry=>⟨xs.length-(i+1),by omega,rfl,bw,by simp [hy],ps++[y],a0,ak,Rs.snoc ry (Rs.ext (bD.trans e3) ps cw),s3,(ex.trans bD).trans e3,h3⟩⟩
  ·have e:i=xs.length:=by omega
   subst e
   rw [List.drop_length] at h
   exact .inl ⟨w2 _ ρ H ex (ye _),yR (by omega),λl hl=>Out.newList h rs cw hl⟩
 | rf n =>
  obtain ⟨a,ha,rfl⟩:=wk
  refine ⟨λi m ys H=>m+i=lim+1/\ys.length=i/\∃ps st ρ,Rs X.K X.mg ρ H ps ys/\a7 X.K X.mg ρ H st/\Ext ar H0 ρ H/\ρ[n]?=some a/\Out X.K X.mg ρ H (fC fe env n m i ps st) (gV X.K X.mg Q) Er,⟨lim+1,rfl,rfl,[],df,ar,rfl,s0,Ext.refl,ha,h0⟩,?_⟩
  rintro i m ys H ⟨hm,hy,ps,st,ρ,cw,rs,ex,ha,h⟩
  cases m with
  | zero=>exact h.elim
  | succ m =>
   obtain ⟨xs,hn,h⟩:=jw h
   obtain ⟨vs,hH,hR⟩:=rs.addr hn ha
   cases hx:xs[i]? with
   | none =>
    simp only [hx] at h
    have:vs.length<=i:=by rw [<-hR.len];exact lD.mp hx
    exact .inl ⟨⟨vs,a6.of hH,this⟩,yR (by omega),λl hl=>Out.newList h rs cw hl⟩
   | some x =>
    simp only [hx] at h
    obtain ⟨v,hv,rv⟩:=hR.get hx
    refine .inr ⟨⟨vs,v,a6.of hH,hv⟩,yR (by omega),λv' H' y=>?_⟩
    obtain ⟨e1,y⟩:=y
    subst e1
    have e2:=y vs (a6.of hH)
    rw [hv] at e2
    cases e2
    exact ⟨some x::env,st,ρ,(re.ext (e0.trans ex)).cons rv,rs,jC h λak H3 y a0 e3 s3 h3 v ry=>⟨m,jK m,by omega,by simp [hy],ps++[y],a0,ak,Rs.snoc ry (Rs.ext e3 ps cw),s3,ex.trans e3,e3.get ha,h3⟩⟩
def Ej (i:Nat) {elt iter:Expr} {x y:Str} {px pos' gk:Pos} {scope:Scope} {src:zd->Mo Sq} {fe:Ai} {M:Ad} (hc:X.calm=true) (S:di X.env.scope scope x) (eN:Hid scope M X.N) (cv:((".0" : Str)::x::M).Nodup)
  (hi:MI X Er (.Name x px) iter src) (he:∀cl C af ah fp,ME (km X M scope cl x C af ah fp (λ_ _=>False)) XN elt fe) (qd:X.N.Nodup) (qe:X.N[i]?=some y) (hy:Loc X.env.scope y) (qf:X.fn y=true\/X.env.scope.names.lookup y=some .local)
  (qg:swapsWith (.ListComp elt [⟨.Name x px,iter,[],0⟩] scope pos) (some (.Name y pos')) gk.line X.env=pure true) (hs:∀v,foldedSetIterable iter X.env v=pure v:=by intro _;rfl) :
  MS X Er (.Assign [.Name y pos'] (.ListComp elt [⟨.Name x px,iter,[],0⟩] scope pos) gk) (zJ i (y8 src fe)) :=
 PS.weak (Pq (te:=tM X.K X.mg XN fe) hc S eN cv hi (λcl C af ah fp=>he cl C af ah fp) qd qe hy qf qg hs) λD U H ⟨env,st,ρ,re,rs,h⟩=>by
  refine Pu (X:=X) (Er:=Er) (src:=src) (fe:=fe) U H (λv H2=>D.nx (U.set i (some v)) H2) ⟨env,st,ρ,re,rs,h.then λag H1 x ae e1 s1 h1 v rv=>?_⟩
  exact h1.now s1 (U.set i (some v)) ((re.ext e1).set i rv)
def Pw (i:Nat) {elt iter:Expr} {x y:Str} {px pos' gk:Pos} {scope:Scope} {src:zd->Mo Sq} {fe:Ai} {N:Ad} (hc:X.calm=true) (S:di X.env.scope scope x) (eN:X.N=N) (cv:((".0" : Str)::x::N).Nodup)
  (hi:MI X Er (.Name x px) iter src) (he:∀cl C af ah fp,ME (Cs X scope cl x C af ah fp (λ_ _=>False)) XN elt fe) (qd:X.N.Nodup) (qe:X.N[i]?=some y) (hy:Loc X.env.scope y) (qf:X.fn y=true\/X.env.scope.names.lookup y=some .local)
  (qg:swapsWith (.ListComp elt [⟨.Name x px,iter,[],0⟩] scope pos) (some (.Name y pos')) gk.line X.env=pure true) (hs:∀v,foldedSetIterable iter X.env v=pure v:=by intro _;rfl) :
  MS X Er (.Assign [.Name y pos'] (.ListComp elt [⟨.Name x px,iter,[],0⟩] scope pos) gk) (zJ i (y8 src fe)) :=
 Ej i hc S Hid.refl (eN▸cv) hi he qd qe hy qf qg hs
end
end Mi
namespace L2
open PySem PySem.Spec PyProof.Rows PySem.W
section
variable {X:Cx}{pins:Ac}{U:St}{H:Hp}{s:Shared}{a:Addr}{kvs:List (Key×V)}{o:Obj}
end
end L2
namespace Mi
open PySem L2 PySem.W PySem.Spec
section
variable {K:Frag}{mg:Ab}{ρ:Ae}{H:Hp}{a:Addr}{o:Obj}{kvs:List (Key×V)}{u:HO}
def qh (ha:H a=some (.frz o (.dK kvs))) {b:Addr}{w:HO}(h:H b=some w) (n:∀o k,w ≠ .frz o (.dK k)):upd H a u b=some w:=by
 rw [yc]
 ·exact h
 ·intro z;subst z;rw [ha] at h;cases h;exact n _ _ rfl
def Px (ha:H a=some (.frz o (.dK kvs))) {p:Addr}{xs:List V}(h:a9 K H p xs):a9 K (upd H a u) p xs:=by
 rcases h with (h|⟨o,h⟩)|h
 ·exact .inl (.inl (qh ha h (λ_ _=>nofun)))
 ·exact .inl (.inr ⟨o,qh ha h (λ_ _=>nofun)⟩)
 ·exact .inr h
def Py (ha:H a=some (.frz o (.dK kvs))) {p:Addr}{xs:List V}(h:iI K H p xs):iI K (upd H a u) p xs:=by
 rcases h with ⟨o,h⟩|h
 ·exact .inl ⟨o,qh ha h (λ_ _=>nofun)⟩
 ·exact .inr h
mutual
theorem R.th (ha:H a=some (.frz o (.dK kvs))):∀(x:PV) {v:V},R K mg ρ H x v->R K mg ρ (upd H a u) x v
 | .non,_,h=>h
 | .bl _,_,h=>h
 | .int _,_,h=>h
 | .str _,_,h=>h
 | .ty _,_,h=>h
 | .tup xs,_,h=>by
  obtain ⟨a,vs,h1,h2,h3⟩:=h
  exact ⟨a,vs,h1,Px ha h2,Rs.th ha xs h3⟩
 | .frl xs,_,h=>by
  obtain ⟨a,vs,h1,h2,h3⟩:=h
  exact ⟨a,vs,h1,Py ha h2,Rs.th ha xs h3⟩
 | .ref n,_,h=>h
 | .fn _,_,h=>h
 | .kd ks xs,_,h=>by
  obtain ⟨a,us,vs,h1,h2,h4,h3⟩:=h
  exact ⟨a,us,vs,h1,h2,h4,Rs.th ha xs h3⟩
 | .exo c ks xs,_,h=>by
  obtain ⟨a,C,d,vs,h1,h2,h3,h4,h5,h6⟩:=h
  exact ⟨a,C,d,vs,h1,h2,qh ha h3 (λ_ _=>nofun),qh ha h4 (λ_ _=>nofun),Rs.th ha xs h5,h6⟩
theorem Rs.th (ha:H a=some (.frz o (.dK kvs))):∀(xs:An) {vs:List V},Rs K mg ρ H xs vs->Rs K mg ρ (upd H a u) xs vs
 | [],_,h=>h
 | x::xs,_,h=>by
  obtain ⟨v,r,h1,h2,h3⟩:=h
  exact ⟨v,r,h1,R.th ha x h2,Rs.th ha xs h3⟩
end
def a8.th (ha:H a=some (.frz o (.dK kvs))) {env:zd}{U:L2.St}(h:a8 K mg ρ H env U):a8 K mg ρ (upd H a u) env U :=
 ⟨h.len,λi x hx=>let ⟨v,p,q⟩:=h.at_ i x hx;⟨v,p,R.th ha x q⟩⟩
end
section
variable {X:Cx}{Er:XK}{pos:Pos}{o:Expr}{eR:List Stmt}{gb:Aj}{fo:Ai}{fs:Ah}
end
end Mi
namespace L2
open PySem PySem.Spec PyProof.Rows PySem.W
end L2
namespace Mi
open PySem L2 PySem.W PySem.Spec
section
variable {X:Cx}{Er:XK}{K:Frag}{mg:Ab}{pos p apos a_:Pos}{o e f:Expr}{fo fk fx:Ai}
def dO:List PV->Option (List Bool)
 | []=>some []
 | .bl b::r=>(dO r).map (b::·)
 | _::_=>none
theorem Ek {ρ:Ae}{H:Hp}:∀{xs:An}{bs:List Bool}{vs:List V},dO xs=some bs->Rs K mg ρ H xs vs->vs=bs.map V.bl
 | [],bs,vs,e,h=>by cases e;cases h;rfl
 | .bl i::r,bs,vs,e,h=>by
  simp only [dO,Option.map_eq_some_iff] at e
  obtain ⟨ir,e1,rfl⟩:=e
  obtain ⟨v,r',rfl,h1,h2⟩:=h
  cases h1
  rw [Ek e1 h2]
  rfl
 | .non::_,_,_,e,_=>by cases e
 | .int _::_,_,_,e,_=>by cases e
 | .str _::_,_,_,e,_=>by cases e
 | .ty _::_,_,_,e,_=>by cases e
 | .tup _::_,_,_,e,_=>by cases e
 | .frl _::_,_,_,e,_=>by cases e
 | .ref _::_,_,_,e,_=>by cases e
 | .fn _::_,_,_,e,_=>by cases e
 | .kd _ _::_,_,_,e,_=>by cases e
 | .exo _ _ _::_,_,_,e,_=>by cases e
def xO:Al:=λvs st=>(mi vs st).bind λn st=>yl st n λxs=>match dO xs with
 | some bs=>.ok (.bl (bs.all id)) st
 | none=>.stuck
def Pz (hc:X.calm=true):c_ X (.builtin "all") xO:=⟨_,Lv hc,fun ρ H st xs vs Q E s r h=>by
 obtain ⟨n,ys,rfl,hn,h⟩:=xA h
 obtain ⟨cM,oP,h⟩:=jw h
 obtain ⟨v,rfl,rv⟩:=r.one
 obtain ⟨a,rfl,ha⟩:=rv
 obtain ⟨ws,hH,hR⟩:=s.addr oP ha
 cases hi:dO cM with
 | none=>simp only [hi] at h;exact h.elim
 | some bs =>
  simp only [hi] at h
  have e:=Ek hi hR
  subst e
  exact ⟨a,bs,rfl,a6.of hH,Out.now (x:=PV.bl (bs.all id)) h s _ rfl⟩⟩
theorem PB:bootBuiltins "all" = some (.builtin "all"):=by decide +kernel
def pairOf:PV->Option (PV×PV)
 | .tup [x,y]=>some (x,y)
 | _=>none
def PC {q:PV}{r:PV×PV}(h:pairOf q=some r):q=.tup [r.1,r.2]:=by
 unfold pairOf at h
 split at h
 ·cases h;rfl
 ·cases h
def kT (fe:Ai) (env:zd):List PV->Al
 | [],ys,st=>.ok (.ref st.length) (st++[.lst ys])
 | q::xs,ys,st=>match pairOf q with
  | some r=>(bG (fe (some r.1::some r.2::env) st)).bind λz ae=>kT fe env xs (ys++[z]) ae
  | none=>.stuck
def PD {fe:Ai}{env:zd}{q:PV}{xs ys:An}{st:aa}{ρ:Ae}{H:Hp}{good:List Addr->Hp->PV->aa->Prop}(h:Out K mg ρ H (kT fe env (q::xs) ys st) good Er):∃x y,q=.tup [x,y]/\Out K mg ρ H ((bG (fe (some x::some y::env) st)).bind λz ae=>kT fe env xs (ys++[z]) ae) good Er:=by
 simp only [kT] at h
 cases hq:pairOf q with
 | none=>simp only [hq] at h;exact h.elim
 | some r =>
  simp only [hq] at h
  exact ⟨r.1,r.2,PC hq,h⟩
def uQ:Sq->Option (An)
 | .im xs=>some xs
 | .rf _=>none
def xP (src:zd->Mo Sq) (fe:Ai):Ai:=λenv st=>(src env st).bind λq ae=>match uQ q with
 | some xs=>if xs.length<=lim then kT fe env xs [] ae else .stuck
 | none=>.stuck
def PF {elt iter:Expr} {x y:Str} {kt:Nat} {px py tp:Pos} {scope:Scope} {src:zd->Mo Sq} {fe:Ai} {N:Ad} (hc:X.calm=true) (S:cS X.env.scope scope [x,y]) (eN:X.N=N) (cv:((".0" : Str)::([x,y]++N)).Nodup)
  (hi:MI X Er (.Tuple [.Name x px,.Name y py] kt tp) iter src) (he:∀cl C af ah fp,ME (eW X scope cl [x,y] C af ah fp (λ_ _=>False)) XN elt fe)
  (hx:scope.names.lookup x=some .local:=by rfl) (hy:scope.names.lookup y=some .local:=by rfl) (hs:∀v,foldedSetIterable iter X.env v=pure v:=by intro _;rfl) :
  ME X Er (.ListComp elt [⟨.Tuple [.Name x px,.Name y py] kt tp,iter,[],0⟩] scope pos) (xP src fe):=by
 have hN:([x,y]++X.N).Nodup:=by rw [eN];exact (jI.mp cv).2
 have f7:∀cl C af ah fp E,PG (eW X scope cl [x,y] C af ah fp E) (.Tuple [.Name x px,.Name y py] kt tp) (rz X.K 2 (lG (jX 0) (lG (jX 1) ro))):=λcl C af ah fp E=>rA (n:=2) hc
  (kf (wq (X:=eW X scope cl [x,y] C af ah fp E) (i:=0) hN rfl (.inl (jx hx)) (.inr (jx hx)))
  (kf (wq (X:=eW X scope cl [x,y] C af ah fp E) (i:=1) hN rfl (.inl (jx hy)) (.inr (jx hy))) rq))
 exact PE.weak (vB (te:=tM X.K X.mg XN fe) (tt:=nv) hc S eN cv hi f7 (λcl C af ah fp=>Cy) (λcl C af ah fp=>he cl C af ah fp) hs) λU H Q ⟨env,st,ρ,re,rs,h⟩=>⟨env,st,ρ,re,rs,h.then λar H0 q df e0 s0 h0 J wk=>by
  cases q with
  | rf n=>exact h0.elim
  | im xs =>
   obtain ⟨hl,h0⟩:=Out.ifp (show Out X.K X.mg ar H0 (if xs.length<=lim then kT fe env xs [] df else .stuck) (gV X.K X.mg Q) Er from h0)
   obtain ⟨w1,w2,w3⟩:=wk
   refine ⟨λi m ys H=>m=xs.length-i/\i<=xs.length/\ys.length=i/\∃ps st ρ,Rs X.K X.mg ρ H ps ys/\a7 X.K X.mg ρ H st/\Ext ar H0 ρ H/\Out X.K X.mg ρ H (kT fe env (xs.drop i) ps st) (gV X.K X.mg Q) Er,⟨xs.length,by simp,jj _,rfl,[],df,ar,rfl,s0,Ext.refl,h0⟩,?_⟩
   rintro i m ys H ⟨rfl,hi,hy,ps,st,ρ,cw,rs,ex,h⟩
   by_cases bw:i<xs.length
   ·refine .inr ⟨w1 i ρ H ex bw,yR (by omega),λv H' yy=>?_⟩
    obtain ⟨x,hx,bD,s2,rx⟩:=w3 i ρ H st v H' ex rs bw yy
    have hd:xs.drop i=x::xs.drop (i+1):=by
     rw [jW bw]
     have:=(yv.mp hx).2
     rw [this]
    rw [hd] at h
    obtain ⟨p,q,rfl,h⟩:=PD h
    obtain ⟨a,vs,rfl,h1,h2⟩:=rx
    obtain ⟨u,w,rfl,r1,r2⟩:=Rs.two h2
    refine ⟨a,[u,w],rfl,h1,rfl,u,[w],rfl,w,[],rfl,rfl,[some u,some w],rfl,rfl,?_⟩
    have gg:a8 X.K X.mg ρ H' (some p::some q::env) (some u::some w::U):=((re.ext (e0.trans (ex.trans bD))).cons r2).cons r1
    simp only [nv,↓reduceIte]
    exact ⟨_,st,ρ,gg,s2,jC (Out.ext h bD) λaD H4 y cY e4 s4 h4 v4 r4=>⟨xs.length-(i+1),by omega,rfl,bw,by simp [hy],ps++[y],cY,aD,Rs.snoc r4 (Rs.ext (bD.trans e4) ps cw),s4,(ex.trans bD).trans e4,h4⟩⟩
   ·have e:i=xs.length:=by omega
    subst e
    rw [List.drop_length] at h
    exact .inl ⟨w2 _ ρ H ex (ye _),yR (by omega),λl hl=>Out.newList h rs cw hl⟩⟩
inductive qi (X:Cx) (Er:XK):List (Option Expr)->List Expr->List ((Ai)×(Ai))->Prop
 | nil:qi X Er [] [] []
 | cons {k v:Expr} {fk fv:Ai} {ks:List (Option Expr)} {vs:List Expr} {fs:List ((Ai)×(Ai))} (hk:ME X Er k fk) (hv:ME X Er v fv) (hr:qi X Er ks vs fs):qi X Er (some k::ks) (v::vs) ((fk,fv)::fs)
def qi.len {ks:List (Option Expr)}{vs:List Expr}{fs:List ((Ai)×(Ai))}(h:qi X Er ks vs fs):ks.length=vs.length/\ks.length=fs.length/\ks.all (·.isSome)=true:=by
 induction h with
 | nil=>exact ⟨rfl,rfl,rfl⟩
 | cons hk hv hr ih=>exact ⟨by simp [ih.1],by simp [ih.2.1],by simpa using ih.2.2⟩
end
section
variable {K:Frag}{mg:Ab}{h:Heap}
end
section
variable {X:Cx}{Er:XK}{K:Frag}{mg:Ab}
def call_len_dict:bY X (.builtin "len") (λxs H Q=>∃p kvs,xs=[.ref p]/\H p=some (.dK kvs)/\Q (.int kvs.length) H):=by
 intro pins s U H xs us Q I r h
 obtain ⟨p,kvs,rfl,hp,q⟩:=h
 obtain ⟨u,rfl,rx⟩:=wQ r
 cases rx
 exact LD I (.inl hp) λt s' I'=>⟨.int kvs.length,H,I',⟨t,rfl⟩,q⟩
def yx:Al:=λxs st=>match xs with
 | [.ref n]=>match st[n]? with
  | some (.dic ks _)=>.ok (.int ks.length) st
  | _=>pP xs st
 | _=>pP xs st
def jP:c_ X (.builtin "len") yx:=by
 obtain ⟨r,h1,h2⟩:=Nk (X:=X)
 refine ⟨_,h1.or call_len_dict,fun ρ H st xs vs Q E s rx h=>?_⟩
 by_cases hx:∃n ks ys,xs=[.ref n]/\st[n]?=some (.dic ks ys)
 ·obtain ⟨n,ks,ys,rfl,e⟩:=hx
  have h:Out X.K X.mg ρ H (.ok (.int ks.length) st) (gV X.K X.mg Q) E:=by
   simpa only [yx,e] using h
  obtain ⟨v,rfl,rv⟩:=Rs.one rx
  obtain ⟨a,ws,rfl,_,k1,k2,k3⟩:=R.refD s rv e
  refine .inr ⟨a,_,rfl,k1,?_⟩
  have hl:(kz ks ws).length=ks.length:=by simp [kz,k3]
  rw [hl]
  exact Out.now (x:=PV.int ks.length) h s _ rfl
 ·refine .inl (h2 ρ H st xs vs Q E s rx ?_)
  have:yx xs st=pP xs st:=by
   unfold yx
   split
   ·rename_i n
    split
    ·rename_i ks ys e;exact absurd ⟨n,ks,ys,rfl,e⟩ hx
    ·rfl
   ·rfl
  rw [this] at h
  exact h
end
section
variable {α:Type}{env:zd}{st:aa}{fa fb fo fk fx:Ai}{fs:Ah}{g:Aj}
def El {n:Nat}{ks:Ad}{xs:An}(h:st[n]?=some (.dic ks xs)) (k:List Str->List PV->Res α):ja st n k=k ks xs:=by unfold ja;rw [h]
def bp {n:Nat}{xs:An}(h:st[n]?=some (.lst xs)):yx [.ref n] st=.ok (.int xs.length) st:=by
 simp only [yx,h]
 show yl st n _=_
 rw [yz h]
@[simp] def PH (xs:An):yx [.tup xs] st=.ok (.int xs.length) st:=(rfl)
@[simp] def YB (xs:An):yx [.frl xs] st=.ok (.int xs.length) st:=(rfl)
@[simp] def PJ (src:zd->Mo Sq):xP src fa env st=(src env st).bind λq ae=>match uQ q with|some xs=>if xs.length<=lim then kT fa env xs [] ae else .stuck|none=>.stuck:=(rfl)
end
end Mi
namespace L2
open PySem PySem.Spec PyProof.Rows PySem.W
section
variable {X:Cx}
end
end L2
namespace Mi
open PySem L2 PySem.W PySem.Spec
section
variable {X:Cx}{Er:XK}{pos:Pos}{K:Frag}{mg:Ab}{fs:Ah}
end
end Mi
namespace PySem
open Sem (wp)
def Lr.nolen:typeLookup (.type "list_reverseiterator") "__len__" = pure none:=by rw [typeLookup_type,builtinLookup_eq_fast];kernel_rfl
def Lr.hint:typeLookup (.type "list_reverseiterator") "__length_hint__" = pure (some (.builtin "list_reverseiterator.__length_hint__")):=by rw [typeLookup_type,builtinLookup_eq_fast];kernel_rfl
section
variable {prog:Program}{w:World}{A:Around}{s:Shared}{R:Result->Shared->Prop}
variable {I:Addr}{fp wr:Ae}{G:Array GenState->Array GenState->Prop}{n:Nat}{P:Nat->Value->Prop}{St:Nat->Shared->Prop}
theorem Lr.extend (W:WalksS prog w A.in1 I fp wr G n P St) (hT:∀i s,St i s->s.TypeIs (.ref I) "list_reverseiterator") (S:Addr) (res:Value) (aM:Nat) (bH:St 0 s) (mv:S∉fp) (hI:I∈fp)
  (hS:s.heap.get? S=some { cls:=.type "list", data:=.seq #[] aM })
  (hR:∀s' cI c',Moved (S::wr) G s s'->s'.heap.get? S=some { cls:=.type "list", dict:=none,data:=.seq cI c',slots:=#[] }->ItemsOf P cI n->R (.ok (.ret res)) s') (hn:n<=sizeLine:=by size_fits) :
  wpAny (model prog w) A.in1 (Builtin.List.listExtendWith (.ref S) (.ref I) res)
   (λfin s'=>match fin with | .done f=>R (.ok f) s' | .again c'=>c'.quiet=true/\codeAny (model prog w) A c' R s') (λe s'=>R (.error e) s') s:=by
 have PK:S≠I:=λe=>mv (e▸hI)
 unfold Builtin.List.listExtendWith
 refine zt (wpAny_typeOf (hT 0 _ bH) ?_)
 have h1:Builtin.List.listSameRef (.ref S) (.ref I)=false:=by simp [Builtin.List.listSameRef,PK]
 rw [zH (by rw [h1];decide)]
 refine zt (W.self 0 _ _ _ bH ?_)
 refine zt (wn ?_)
 unfold Builtin.List.listLengthHint
 refine zt (wpAny_specialOf (hT 0 _ bH) Lr.nolen ?_)
 show wpAny _ A.in1 (specialOf (Value.ref I) (Str.ofString "__length_hint__") >>= _) _ _ _
 refine zt (wpAny_specialOf (hT 0 _ bH) Lr.hint ?_)
 generalize hid:("list_reverseiterator.__length_hint__" : String)=id0
 wp_delta
 rw [show splitId id0=some ("list_reverseiterator", "__length_hint__") from by subst hid;decide +kernel]
 subst hid
 refine zt (wpAny_isInstance (b:=true) (hT 0 _ bH) (by rw [isSubtype_type];kernel_rfl) ?_)
 refine zM ?_
 rw [zH (by decide)]
 refine zM ⟨plainId_quiet F.plain_extend_loop _,codeAny_extend_loopS W hn _ mv _ n 0 _ _ _ rfl (jj _) bH hS (ItemsOf.nil P) λs' cI c' hm qj fJ=>?_⟩
 exact hR s' cI c' hm qj fJ
end
section
variable {prog:Program}{w:World}{A:Around}{s:Shared}{R:Result->Shared->Prop}
variable {I:Addr}{fp wr:Ae}{G:Array GenState->Array GenState->Prop}{n:Nat}{P:Nat->Value->Prop}{St:Nat->Shared->Prop}
theorem Lr.init (W:WalksS prog w A.in1 I fp wr G n P St) (hT:∀i s,St i s->s.TypeIs (.ref I) "list_reverseiterator") (S:Addr) (bH:St 0 s) (mv:S∉fp) (hI:I∈fp)
  (hS:s.heap.get? S=some { cls:=.type "list", data:=.seq #[] })
  (hR:∀s' cI c',Moved (S::wr) G s s'->s'.heap.get? S=some { cls:=.type "list", dict:=none,data:=.seq cI c',slots:=#[] }->ItemsOf P cI n->R (.ok (.ret .none)) s') (hn:n<=sizeLine:=by size_fits) :
  wpAny (model prog w) A.in1 (Builtin.«list.__init__» ⟨[.ref S,.ref I],[]⟩)
   (λfin s'=>match fin with | .done f=>R (.ok f) s' | .again c'=>c'.quiet=true/\codeAny (model prog w) A c' R s') (λe s'=>R (.error e) s') s:=by
 show wpAny _ A.in1 (do let old <-Builtin.List.listItems (.ref S);Builtin.List.listUpdate (.ref S) (λ_=>#[]);letGo old.toList.reverse;Builtin.List.listExtendWith (.ref S) (.ref I) .none) _ _ s
 refine zt ?_
 unfold Builtin.List.listItems
 refine zt (wpAny_seqItems hS rfl (zM ?_))
 show wpAny _ A.in1 (updateSeq S (λ_=>#[]) >>= λ_=>letGo (#[]:Array Value).toList.reverse >>= λ_=>Builtin.List.listExtendWith (.ref S) (.ref I) .none) _ _ s
 refine zt (wpAny_updateSeq hS rfl ?_)
 have aL:=Heap.get?_update_self (Obj.mapSeq (λ_=>(#[]:Array Value))) hS rfl
 have lZ:∀b o,b≠S->s.heap.get? b=some o->(s.heap.update S (Obj.mapSeq (λ_=>(#[]:Array Value)))).get? b=some o :=
  λb o hb e=>(wK _ _ (yC hb)).trans e
 refine zt (wpAny_letGo ?_)
 refine Lr.extend (hn:=hn) W hT S .none _ (W.frame 0 s _ s.toks bH (ye _) λb hb o e=>lZ b o (λh=>mv (h▸hb)) e) mv hI aL λs' cI c' hm qj fJ=>?_
 exact hR s' cI c' (Moved.trans W.gtrans ((Moved.refl W.grefl).then_heap (ye _) λb o hb e=>lZ b o (λh=>hb (h▸jd)) e) hm) qj fJ
end
section
variable {prog:Program}{w:World}{A:Around}{E:Aa}{s:Shared}
variable {I:Addr}{fp wr:Ae}{G:Array GenState->Array GenState->Prop}{n:Nat}{P:Nat->Value->Prop}{St:Nat->Shared->Prop}
def Lr.call {Q:Aa} (W:WalksS prog w A.in1.in1 I fp wr G n P St) (hT:∀i s,St i s->s.TypeIs (.ref I) "list_reverseiterator") (bH:St 0 s) (PL:∀b∈fp,b<s.heap.objs.size) (hI:I∈fp)
  (hQ:∀s' cI c',Moved (s.heap.objs.size::wr) G { s with heap:=s.heap.push { cls:=.type "list", data:=.seq #[] } } s' ->
   s'.heap.get? s.heap.objs.size=some { cls:=.type "list", dict:=none,data:=.seq cI c',slots:=#[] }->ItemsOf P cI n->Q (.ref s.heap.objs.size) s') (hn:n<=sizeLine:=by size_fits) :
  wpAny (model prog w) A (call (.type "list") [.ref I]) Q E s:=by
 have mv:s.heap.objs.size∉fp:=λhm=>Nat.lt_irrefl _ (PL _ hm)
 refine callType_codes (Q₁:=λobj al=>obj=.ref s.heap.objs.size/\al={ s with heap:=s.heap.push { cls:=.type "list", data:=.seq #[] } }) F.called_list (F.typeCall_list_1 _) F.entry_list_init
  (code_list_new _ ⟨rfl,rfl⟩) λobj al az=>?_
 obtain ⟨rfl,rfl⟩:=az
 have hS:(s.heap.push { cls:=.type "list", data:=.seq #[] }).get? s.heap.objs.size=some { cls:=.type "list", data:=.seq #[] }:=yY _ rfl
 refine ⟨⟨_,hS,rfl⟩,F.args_list_init_2 _ _,Lr.init (hn:=hn) W hT _ (W.frame 0 s _ s.toks bH (ye _) λb _ o e=>yk _ e) mv hI hS λs' cI c' hm qj fJ=>?_⟩
 exact ⟨rfl,hQ s' cI c' hm qj fJ⟩
end
end PySem
namespace L2
open PySem PySem.Spec PyProof.Rows PySem.W
section
variable {X:Cx}
end
end L2
namespace Mi
open PySem L2 PySem.W PySem.Spec
section
variable {X:Cx}{Er:XK}{pos:Pos}{K:Frag}{mg:Ab}{fs:Ah}
end
section
variable {X:Cx}{Er:XK}{pos pos':Pos}{o i value:Expr}{fo fi fv:Ai}
end
section
variable {X:Cx}
end
end Mi
namespace L2
open PySem PySem.Spec PyProof.Rows PySem.W
section
variable {prog:Program}{w:World}{A:Around}{E:Aa}{s:Shared}
end
section
variable {X:Cx}{pos:Pos}
end
end L2
namespace Mi
open PySem L2 PySem.W PySem.Spec
section
variable {X:Cx}{Er:XK}{pos:Pos}{e:Expr}{fa:Ai}
end
end Mi
namespace L2
open PySem PySem.Spec PyProof.Rows PySem.W
section
variable {prog:Program}{w:World}{A:Around}{E:Aa}{s:Shared}
end
end L2
namespace Mi
open PySem L2 PySem.W PySem.Spec
section
variable {X:Cx}{Er:XK}{pos:Pos}{eR:List Stmt}{gb:Aj}{fs:Ah}
end
end Mi
namespace L2
open PySem PySem.Spec PyProof.Rows PySem.W
section
variable {prog:Program}{w:World}{A:Around}{E:Aa}{s:Shared}
end
end L2
namespace Mi
open PySem L2 PySem.W PySem.Spec
section
variable {X:Cx}
end
end Mi
namespace L2
open PySem PySem.Spec PyProof.Rows PySem.W
end L2
namespace Mi
open PySem L2 PySem.W PySem.Spec
section
variable {X:Cx}{Er:XK}{pos:Pos}
def fQ (ft:Ak) (fe:Ai) (env:zd):List PV->Al
 | [],ys,st=>.ok (.ref st.length) (st++[.lst ys])
 | x::xs,ys,st=>(bG (ft (some x::env) st)).bind λb ae=>if b=true then (bG (fe (some x::env) ae)).bind λy aA=>fQ ft fe env xs (ys++[y]) aA else fQ ft fe env xs ys ae
def dP (ft:Ak) (fe:Ai) (env:zd) (n:Nat):Nat->Nat->Al
 | 0,_,_,_=>.stuck
 | m+1,i,ys,st=>yl st n λxs=>match xs[i]? with
  | none=>.ok (.ref st.length) (st++[.lst ys])
  | some x=>(bG (ft (some x::env) st)).bind λb ae=>if b=true then (bG (fe (some x::env) ae)).bind λy aA=>dP ft fe env n m (i+1) (ys++[y]) aA else dP ft fe env n m (i+1) ys ae
def m9 (ft:Ak) (fe:Ai) (env:zd):Sq->Mo PV
 | .im xs,st=>if xs.length<=lim then fQ ft fe env xs [] st else .stuck
 | .rf n,st=>dP ft fe env n (lim+1) 0 [] st
def qk (src:zd->Mo Sq) (ft:Ak) (fe:Ai):Ai:=λenv st=>(src env st).bind λq ae=>m9 ft fe env q ae
theorem PN {src:zd->Mo Sq}{ft:Ak}{fe:Ai}(U:L2.St) (H:Hp) (Q:VK) (hh:tM X.K X.mg Er (qk src ft fe) U H Q):vm (Ei X Er src) (jX 0) (l8 X.K X.mg XN ft) (tM X.K X.mg XN fe) 1 U H Q:=by
 obtain ⟨env,st,ρ,re,rs,h⟩:=hh
 refine ⟨env,st,ρ,re,rs,h.then λar H0 q df e0 s0 h0 J wk=>?_⟩
 cases q with
 | im xs =>
  obtain ⟨hl,h0⟩:=Out.ifp h0
  obtain ⟨w1,w2,w3⟩:=wk
  refine ⟨λi m ys H=>m=xs.length-i/\i<=xs.length/\ys.length<=i/\∃ps st ρ,Rs X.K X.mg ρ H ps ys/\a7 X.K X.mg ρ H st/\Ext ar H0 ρ H/\Out X.K X.mg ρ H (fQ ft fe env (xs.drop i) ps st) (gV X.K X.mg Q) Er,⟨xs.length,by simp,jj _,jj _,[],df,ar,rfl,s0,Ext.refl,h0⟩,?_⟩
  rintro i m ys H ⟨rfl,hi,hy,ps,st,ρ,cw,rs,ex,h⟩
  by_cases bw:i<xs.length
  ·refine .inr ⟨w1 i ρ H ex bw,yR (by omega),λv H' y=>?_⟩
   obtain ⟨x,hx,bD,s2,rx⟩:=w3 i ρ H st v H' ex rs bw y
   have hd:xs.drop i=x::xs.drop (i+1):=by
    rw [jW bw]
    have:=(yv.mp hx).2
    rw [this]
   rw [hd] at h
   simp only [fQ] at h
   have gg:a8 X.K X.mg ρ H' (some x::env) (some v::U):=(re.ext (e0.trans (ex.trans bD))).cons rx
   refine ⟨[some v],rfl,rfl,some x::env,st,ρ,gg,s2,jC (Out.ext h bD) λak H3 b a0 e3 s3 h3=>?_⟩
   cases b with
   | true=>exact ⟨_,a0,ak,gg.ext e3,s3,jC h3 λaD H4 y cY e4 s4 h4 v4 r4=>⟨xs.length-(i+1),by omega,rfl,bw,by simp;omega,ps++[y],cY,aD,Rs.snoc r4 (Rs.ext ((bD.trans e3).trans e4) ps cw),s4,((ex.trans bD).trans e3).trans e4,h4⟩⟩
   | false=>exact ⟨xs.length-(i+1),by omega,rfl,bw,by omega,ps,a0,ak,Rs.ext (bD.trans e3) ps cw,s3,(ex.trans bD).trans e3,h3⟩
  ·have e:i=xs.length:=by omega
   subst e
   rw [List.drop_length] at h
   exact .inl ⟨w2 _ ρ H ex (ye _),yR (by omega),λl hl=>Out.newList h rs cw hl⟩
 | rf n =>
  obtain ⟨a,ha,rfl⟩:=wk
  refine ⟨λi m ys H=>m+i=lim+1/\ys.length<=i/\∃ps st ρ,Rs X.K X.mg ρ H ps ys/\a7 X.K X.mg ρ H st/\Ext ar H0 ρ H/\ρ[n]?=some a/\Out X.K X.mg ρ H (dP ft fe env n m i ps st) (gV X.K X.mg Q) Er,⟨lim+1,rfl,jj _,[],df,ar,rfl,s0,Ext.refl,ha,h0⟩,?_⟩
  rintro i m ys H ⟨hm,hy,ps,st,ρ,cw,rs,ex,ha,h⟩
  cases m with
  | zero=>exact h.elim
  | succ m =>
   obtain ⟨xs,hn,h⟩:=jw h
   obtain ⟨vs,hH,hR⟩:=rs.addr hn ha
   cases hx:xs[i]? with
   | none =>
    simp only [hx] at h
    have:vs.length<=i:=by rw [<-hR.len];exact lD.mp hx
    exact .inl ⟨⟨vs,a6.of hH,this⟩,yR (by omega),λl hl=>Out.newList h rs cw hl⟩
   | some x =>
    simp only [hx] at h
    obtain ⟨v,hv,rv⟩:=hR.get hx
    refine .inr ⟨⟨vs,v,a6.of hH,hv⟩,yR (by omega),λv' H' y=>?_⟩
    obtain ⟨e1,y⟩:=y
    subst e1
    have e2:=y vs (a6.of hH)
    rw [hv] at e2
    cases e2
    have gg:a8 X.K X.mg ρ H' (some x::env) (some v::U):=(re.ext (e0.trans ex)).cons rv
    refine ⟨[some v],rfl,rfl,some x::env,st,ρ,gg,rs,jC h λak H3 b a0 e3 s3 h3=>?_⟩
    cases b with
    | true=>exact ⟨_,a0,ak,gg.ext e3,s3,jC h3 λaD H4 y cY e4 s4 h4 v4 r4=>⟨m,jK m,by omega,by simp;omega,ps++[y],cY,aD,Rs.snoc r4 (Rs.ext (e3.trans e4) ps cw),s4,(ex.trans e3).trans e4,e4.get (e3.get ha),h4⟩⟩
    | false=>exact ⟨m,jK m,by omega,by omega,ps,a0,ak,Rs.ext e3 ps cw,s3,ex.trans e3,e3.get ha,h3⟩
def PQ {elt iter c:Expr} {x:Str} {px:Pos} {scope:Scope} {src:zd->Mo Sq} {ft:Ak} {fe:Ai} {N:Ad} (hc:X.calm=true) (S:cS X.env.scope scope [x]) (eN:X.N=N) (cv:((".0" : Str)::([x]++N)).Nodup)
  (hi:MI X Er (.Name x px) iter src) (iD:∀cl C af ah fp,MT (eW X scope cl [x] C af ah fp (λ_ _=>False)) XN c ft) (he:∀cl C af ah fp,ME (eW X scope cl [x] C af ah fp (λ_ _=>False)) XN elt fe)
  (hx:scope.names.lookup x=some .local:=by rfl) (hs:∀v,foldedSetIterable iter X.env v=pure v:=by intro _;rfl):ME X Er (.ListComp elt [⟨.Name x px,iter,[c],0⟩] scope pos) (qk src ft fe):=by
 have hN:([x]++X.N).Nodup:=by rw [eN];exact (jI.mp cv).2
 have f7:∀cl C af ah fp E,PG (eW X scope cl [x] C af ah fp E) (.Name x px) (jX 0):=λcl C af ah fp E=>wq (X:=eW X scope cl [x] C af ah fp E) (i:=0) hN rfl (.inl (jx hx)) (.inr (jx hx))
 exact PE.weak (vB (te:=tM X.K X.mg XN fe) (tt:=l8 X.K X.mg XN ft) hc S eN cv hi f7 (λcl C af ah fp=>vk (iD cl C af ah fp)) (λcl C af ah fp=>he cl C af ah fp) hs) λU H Q hh=>PN U H Q hh
@[simp] def PR {src:zd->Mo Sq}{ft:Ak}{fe:Ai}(env:zd) (st:aa):qk src ft fe env st=(src env st).bind λq ae=>m9 ft fe env q ae:=(rfl)
end
section
variable {K:Frag}{h:Heap}{mg:Ab}{od:Option Addr}{f:Addr}
end
section
variable {X:Cx}{Er:XK}{pos:Pos}
end
section
variable {X:Cx}{Er:XK}{pos:Pos}
end
section
variable {X:Cx}{Er:XK}{pos pos':Pos}{o i value:Expr}{fo fi fv:Ai}
end
end Mi
namespace L2
open PySem PySem.Spec PyProof.Rows PySem.W
section
variable {X:Cx}
end
end L2
namespace Mi
open PySem L2 PySem.W PySem.Spec
section
variable {X:Cx}{Er:XK}
def PU {K:Frag}{mg:Ab}{ρ:Ae}{H:Hp}:∀{xs:An}{zs:Ad}{vs:List V},strsOf xs=some zs->Rs K mg ρ H xs vs->vs=zs.map V.str:=λ{xs zs vs} h r=>by
 have:=DO h r
 rw [this]
 simp [kV,List.map_map,Function.comp_def]
end
section
variable {X:Cx}{K:Frag}{mg:Ab}
end
end Mi
namespace Mi
open PySem L2 PySem.W
section
variable {α:Type}{g g':Aj}{f fa fb fc:Ai}{fs:Ah}{t ta tb:Ak}{e e1:zd}{st s1 s2 s3:aa}{x y v:PV}{xs:An}{b:Bool}
def zA {X:Res Fl}(h:g e st=.ok (.nx e1) s1) (h':g' e1 s1=X):zu g g' e st=X:=by rw [Dy,h,zG,Oo,h']
def j2 (h:g e st=.ok (.rt v) s1):zu g g' e st=.ok (.rt v) s1:=by rw [Dy,h,zG,Oq]
def zU {i:Nat}(h:f e st=.ok v s1):zJ i f e st=.ok (.nx (e.set i (some v))) s1:=by rw [Ot,h,zG]
def wF (h:f e st=.ok v s1):jb f e st=.ok (.nx e) s1:=by rw [Ou,h,zG]
def zY (h:f e st=.ok v s1):zP f e st=.ok (.rt v) s1:=by rw [Ov,h,zG]
def jp {X:Res Fl}(h:t e st=.ok true s1) (h':g e s1=X):zT t g g' e st=X:=by rw [Dz,h,zG,zx rfl,h']
def ql {X:Res Fl}(h:t e st=.ok false s1) (h':g' e s1=X):zT t g g' e st=X:=by rw [Dz,h,zG,zH (by simp),h']
def yu (h:t e st=.ok false s1):zT t g zX e st=.ok (.nx e) s1:=ql h (Om ..)
def zf {i:Nat}(h:e[i]?=some (some v)):zc i e st=.ok v st:=by rw [N6,h]
def zl {op:Am}{X:Res PV}(h:fa e st=.ok x s1) (h':fb e s1=.ok y s2) (h2:op x y s2=X):zh op fa fb e st=X:=by rw [N7,h,zG,h',zG,h2]
def yX {op:PV->Mo PV}{X:Res PV}(h:fa e st=.ok x s1) (h2:op x s1=X):yg op fa e st=X:=by rw [N8,h,zG,h2]
def zC {m:Al}{X:Res PV}(h:fs e st=.ok xs s1) (h2:m xs s1=X):zq m fs e st=X:=by rw [Oh,h,zG,h2]
def tj (h:f e st=.ok x s1) (h':fs e s1=.ok xs s2):ze f fs e st=.ok (x::xs) s2:=by rw [Oa,h,zG,h',zG]
def j3:zk e st=.ok [] st:=(rfl)
def zI (h:f e st=.ok x s1):ze f zk e st=.ok [x] s1:=tj h j3
def zW (h:f e st=.ok x s1) (h':fa e s1=.ok y s2):ze f (ze fa zk) e st=.ok [x,y] s2:=tj h (zI h')
def yB (h:fs e st=.ok xs s1) (hl:xs.length<=1000000):yd fs e st=.ok (.tup xs) s1:=by rw [Oc,h,zG,zx hl]
def we (h:fs e st=.ok xs s1) (hl:xs.length<=1000000):jz fs e st=.ok (.ref s1.length) (s1++[.lst xs]):=by rw [Od,h,zG,zx hl]
def zQ (h:f e st=.ok (.bl b) s1):mB f e st=.ok b s1:=by rw [N9,h,zG,xq]
def mw (h:ta e st=.ok false s1):jF ta tb e st=.ok false s1:=by rw [Dv,h,zG,zH (by simp)]
def mx (h:ta e st=.ok true s1) (h':tb e s1=.ok b s2):jF ta tb e st=.ok b s2:=by rw [Dv,h,zG,zx rfl,h']
def PY (h:ta e st=.ok true s1):wA ta tb e st=.ok true s1:=by rw [Dw,h,zG,zx rfl]
def qm (h:ta e st=.ok false s1) (h':tb e s1=.ok b s2):wA ta tb e st=.ok b s2:=by rw [Dw,h,zG,zH (by simp),h']
def xQ (h:ta e st=.ok b s1):kC ta e st=.ok (!b) s1:=by rw [N_,h,zG]
def PZ {X:Res PV}(h:fa e st=.ok (.bl true) s1) (h':fb e s1=X):kD fa fb e st=X:=by rw [Dx,h,zG,xq,zG,zx rfl,h']
def xR {lo hi:Option Int}{fl fu:zd->Mo (Option Int)}{X:Res PV}(h:fa e st=.ok x s1) (hl:fl e s1=.ok lo s2) (hu:fu e s2=.ok hi s3) (h':pO x lo hi s3=X):l9 fa fl fu e st=X:=by rw [Oe,h,zG,hl,zG,hu,zG,h']
def tm {i:Int}(h:f e st=.ok (.int i) s1):dM f e st=.ok (some i) s1:=by rw [Of,h,zG,Og]
def Em:iK e st=.ok none st:=(rfl)
def wZ {op:Am}{n:Nat}{ys:An}{X:Res PV}(h:fa e st=.ok (.ref n) s1) (hl:s1[n]?=some (.lst ys)) (h':fb e s1=.ok y s2) (h2:op (.ref n) y s2=X):jh op fa fb e st=X:=by
 rw [OA,h,zG,OB]
 simp only [yl,hl,zG]
 rw [h',zG,h2]
def tq (i j:Int):yH (.int i) (.int j) st=.ok (.int (i+j)) st:=(rfl)
def En (i j:Int):pN (.int i) (.int j) st=.ok (.int (i-j)) st:=(rfl)
def w4 (i j:Int) (h:j≠0):yS (.int i) (.int j) st=.ok (.int (jA i j)) st:=by show (if _ then _ else _)=_;rw [zx (by simpa using h)]
def tu (i j:Int) (h:j≠0) (h2:j.natAbs<2 ^ 200):wt (.int i) (.int j) st=.ok (.int (jZ i j)) st:=by
 show (if _ then _ else _)=_
 rw [zx]
 simp only [vX,ia,decide_eq_true_eq]
 exact ⟨h,h2⟩
def xS (i j:Int):j8 (.int i) (.int j) st=.ok (.bl (decide (i<j))) st:=(rfl)
def P0 (i j:Int):kI (.int i) (.int j) st=.ok (.bl (decide (j<i))) st:=(rfl)
def xT (i j:Int):ya (.int i) (.int j) st=.ok (.bl (decide (i=j))) st:=by simp [Mi.plain,dep,bz];rfl
def P1 (i j:Int):jN (.int i) (.int j) st=.ok (.bl (!decide (i=j))) st:=by simp [Mi.plain,dep,bz];rfl
def P2 (i j:Str):ya (.str i) (.str j) st=.ok (.bl (decide (i=j))) st:=by simp [Mi.plain,dep,bz];rfl
def Eo (i j:Int) (h:kG i j=true):iO (.int i) (.int j) st=.ok (.int (i*j)) st:=by rw [O6,zx h]
def zZ {m:Nat}{n:Nat}{r:aa}(hl:xs.length=m) (h:g (xs.map some++List.replicate (n-m) none) st=.ok (.rt v) r):zL m n g xs st=.ok v r:=by
 unfold zL
 rw [zx hl,h,zG,Ox]
end
end Mi
namespace Mi
open PySem L2 PySem.W PySem.Spec
def Ep:Expr->Bool
 | .Starred _ _=>false
 | _=>true
def P4 {e:Expr}{es:List Expr}{env:Env}(h:Ep e=true):DN e es env:=by cases e<;>first|rfl|cases h
def zj {X:Cx}{Er:XK}{e:Expr}{es:List Expr}{fa:Ai}{fs:Ah}(ha:ME X Er e fa) (hr:MA X Er es fs) (hs:Ep e=true:=by rfl):MA X Er (e::es) (ze fa fs):=C4 ha hr (P4 hs)
section
variable {X:Cx}{K:Frag}{mg:Ab}{Er:XK}{e o:Expr}{pos apos a_:Pos}{fo fa:Ai}{x:Str}{h:Heap}
def P5:Am
 | .str z,.ref n,st=>yl st n λxs=>match strsOf xs with
  | some ys=>if (ys.map (·.length)).sum+ys.length*z.length<=1000000 then .ok (.str (Txt.join z ys)) st else .stuck
  | none=>.stuck
 | _,_,_=>.stuck
def tD (fo fa:Ai):Ai:=λenv st=>(fo env st).bind λo ae=>match o with
 | .str z=>(fa env ae).bind λy aA=>P5 (.str z) y aA
 | _=>.stuck
theorem zq4 (ho:ME X Er o fo) (he:ME X Er e fa) (dF:attributeBase o "join" X.env (eval o X.env)=eval o X.env:=by rfl)
  (gy:((backTo a_ (starEach [e] X.env)).all (λx=>!x.1)&&(backToKw a_ (keywordEach [] X.env)).all (λx=>x.1.isSome)&&decide ([e].length+([]:List Keyword).length+(if ([]:List Keyword).isEmpty then 0 else 1)<30))=true:=by rfl)
  (fA:(apos.endLine==a_.line)=true:=by rfl) (hs:starEach [e] X.env=(false,eval e X.env)::starEach [] X.env:=by rfl) (bu:(backTo a_ (starEach [] X.env)).any (·.1)=false:=by rfl):ME X Er (.Call (.Attribute o "join" apos) [e] [] a_) (tD fo fa) :=
 PE.weak (vd PySem.F.plainAttrs_str PySem.F.slot_str_join PySem.F.type_str_join Lw ho (rL he rK hs) dF gy fA hs bu) λU H Q ⟨env,st,ρ,re,rs,h⟩=>⟨env,st,ρ,re,rs,h.then λag H1 x ae e1 s1 h1 v rv=>by
  cases x with
  | str z =>
   cases rv
   refine ⟨rfl,env,ae,ag,re.ext e1,s1,h1.then λaq H2 y aA e2 s2 h2 w dn=>?_⟩
   cases y with
   | ref n =>
    obtain ⟨p,rfl,hp⟩:=dn
    obtain ⟨xs,hn,h3⟩:=jw h2
    cases hq:strsOf xs with
    | none=>simp only [hq] at h3;exact h3.elim
    | some ys =>
     simp only [hq] at h3
     obtain ⟨hl,h4⟩:=Out.ifp h3
     obtain ⟨vs,hH,hR⟩:=s2.addr hn hp
     rw [PU hq hR] at hH
     exact ⟨z,p,ys,rfl,rfl,.inl (.inl hH),by omega,Out.now (x:=PV.str (Txt.join z ys)) h4 s2 _ rfl⟩
   | _=>exact h2.elim
  | _=>exact h1.elim⟩
end
end Mi
namespace PySem
section
variable {M:Model}{A:Around}{E:Aa}
variable {nm q YC q':Str}{C N B N':Addr}{bs bm YD YE:Af}{dj P6:Bool}{sn YF:Ad}{sub XJ:Af}{ab YG:Bool}{col XM:Option Bool}{dd lY:Option Addr}{k0 k1 k2 k3 k5 YH xU YI YJ YK:Option Value}{newId Ic:String}
end
end PySem
namespace L2
open PySem PySem.Spec PyProof.Rows PySem.W
structure P7 (K:Frag) (C B:Addr):Prop where
 of:kA K C
 sub:mroIn K C (.ref B)=some true
end L2
namespace Mi
open PySem L2 PySem.W PySem.Spec
section
variable {X:Cx}{Er:XK}{pos:Pos}
end
end Mi
namespace L2
open PySem PySem.Spec PyProof.Rows PySem.W
end L2
namespace Mi
open PySem L2 PySem.W PySem.Spec
section
variable {X:Cx}{Er:XK}{pos:Pos}{o:Expr}{eR:List Stmt}{gb:Aj}{fo:Ai}{fs:Ah}
end
end Mi
namespace L2
open PySem PySem.Spec PyProof.Rows PySem.W PySem.Builtin PySem.Builtin.ObjectAttr
end L2
namespace Mi
open PySem L2 PySem.W PySem.Spec
section
variable {K:Frag}{mg:Ab}{h:Heap}{C:Addr}
end
section
variable {P:Program}{W:World}{A:Around}{s:Shared}
end
section
variable {X:Cx}{K:Frag}{mg:Ab}{ρ:Ae}{pins:Ac}{U:L2.St}{H:Hp}{s:Shared}{st:aa}
end
section
variable {X:Cx}{K:Frag}{mg:Ab}{Er:XK}{e o:Expr}{es:List Expr}{pos p apos:Pos}{fs:Ah}{fo fa:Ai}
end
end Mi
namespace Mi
open PySem L2 PySem.W PySem.Spec PyProof.Rows
section
variable {prog:Program}{w:World}{A:Around}{E:Aa}{s:Shared}
end
section
variable {X:Cx}{Er:XK}
end
section
variable {prog:Program}{w:World}{A:Around}{E:Aa}{s:Shared}
end
section
variable {prog:Program}{w:World}{A:Around}{E:Aa}{s:Shared}
end
section
variable {X:Cx}{Er:XK}{o:Expr}{fo:Ai}{p pos kp cp:Pos}{j:Nat}
end
section
variable {X:Cx}{Er:XK}
end
end Mi
namespace Mi
open PySem L2 PySem.W PySem.Spec
end Mi
namespace HT
open PySem PySem.Spec PyProof.Rows
section
variable {prog:Program}{w:World}{A:Around}{E:Aa}{s:Shared}
end
end HT
namespace Mi
open PySem L2 PySem.W PySem.Spec PyProof.Rows
section
variable {X:Cx}{K:Frag}{mg:Ab}{Er:XK}{e k:Expr}{p2 pos:Pos}{fa:Ai}{fk:zd->Mo (Option Int)}
end
section
variable {X:Cx}{K:Frag}{mg:Ab}{Er:XK}
end
end Mi
namespace Mi
open PySem L2 PySem.W PySem.Spec
section
variable {X:Cx}{Er:XK}{pos:Pos}
end
end Mi
namespace L2
open PySem PySem.Spec PyProof.Rows PySem.W
end L2
namespace Mi
open PySem L2 PySem.W PySem.Spec
section
variable {X:Cx}{Er:XK}{e o:Expr}{apos:Pos}{fo fa:Ai}
end
end Mi
namespace L2
open PySem PySem.Spec PyProof.Rows PySem.W Mi
section
variable {X:Cx}{pins:Ac}{U:St}{H H':Hp}{s:Shared}{a b:Addr}{its:List (List Key×Addr×Value)}{k:List Key}{A:Around}{E:Aa}{r:Value}
abbrev gL (K:Frag) (H:Hp) (its:List (List Key×Addr×Value)):Prop:=∀x,x∈its->a9 K H x.2.1 (x.1.map kV)
def qo (I:Inv X pins U H s) (h:a9 X.K H b (k.map kV)):(tupleKind (bf X.prog X.w)).is s.heap k b:=by
 obtain ⟨us,r,⟨o,h1,h2,n,h3⟩,_⟩:=I.tuple h
 exact ⟨o,us.toArray,n,h1,h2,h3,by simpa using vG r⟩
def qp (I:Inv X pins U H s) (e:H a=some (dE a its)) (ks:gL X.K H its):its.length<=sizeLine/\(a==sysModules)=false/\s.heap.DictOfH (tupleKind (bf X.prog X.w)) a its:=by
 obtain ⟨⟨z,y,o,es,ep,h1,h2,h3,h4,h5⟩,_⟩:=(show aZ X.prog X.w H s.heap a (dE a its) from I.hok a _ e)
 exact ⟨z,y,o,es,ep,h1,h2,h3,h4,λx hx=>qo I (ks x hx),h5⟩
def P8 {p:Addr×Value}{Q:Aa}(hu:A.units+1<cLine) (I:Inv X pins U H s) (e:H a=some (dE a its)) (ks:gL X.K H its) (kb:a9 X.K H b (k.map kV)) (hp:atKey its k=some p)
  (h:∀s',Inv X pins U H s'->Q p.2 s'):wpAny (model X.prog X.w) A (getItem (.ref a) (.ref b)) Q E s:=by
 obtain ⟨z,hd,dd⟩:=qp I e ks
 exact wpAny_getItem_heap (tupleKind_room_in1 hu) (qo I kb) dd hp (h _ (I.tok _))
def P9 {Q:Aa}(hu:A.units+1<cLine) (I:Inv X pins U H s) (e:H a=some (dE a its)) (ks:gL X.K H its) (kb:a9 X.K H b (k.map kV))
  (h:∀s',Inv X pins U H s'->Q (.bool (atKey its k).isSome) s'):wpAny (model X.prog X.w) A (compareOp .In (.ref b) (.ref a)) Q E s:=by
 obtain ⟨z,hd,dd⟩:=qp I e ks
 exact wpAny_in_heap (tupleKind_room_in1 hu) (qo I kb) hd dd (h _ (I.tok _))
def P_ {Q:Aa}(hu:A.units+1<cLine) (I:Inv X pins U H s) (e:H a=some (dE a its)) (ks:gL X.K H its) (kb:a9 X.K H b (k.map kV))
  (h:∀s',Inv X pins U H s'->Q (.bool (!(atKey its k).isSome)) s'):wpAny (model X.prog X.w) A (compareOp .NotIn (.ref b) (.ref a)) Q E s:=by
 obtain ⟨z,hd,dd⟩:=qp I e ks
 exact wpAny_notIn_heap (tupleKind_room_in1 hu) (qo I kb) hd dd (h _ (I.tok _))
theorem Qa (its:List (List Key×Addr×Value)) (k:List Key) (b:Addr) (r:Value):(storedH its k b r).length<=its.length+1:=by
 unfold storedH
 split
 ·rw [jk];omega
 ·simp
def Es {P:Program}{w:World}{H:Hp}{h:Heap}{q:Obj}{es:Array DictEntry}{ep:Nat}(z:its.length<=sizeLine) (hd:(a==sysModules)=false) (hq:h.get? a=some q) (h2:q.ExactDict) (h3:q.data=.dict es ep)
  (h4:es.toList=its.map (entryOfKey (tupleKind (bf P w)))) (h5:(its.map (·.1)).Nodup):aZ P w H h a (dE a its) :=
 ⟨⟨z,hd,q,es,ep,hq,h2,h3,h4,h5⟩,⟨q,hq⟩,λh1 h2 ⟨z,y,o,es,ep,e,r⟩ k=>⟨z,y,o,es,ep,k _ e,r⟩⟩
theorem Qb {Q:Unit->Shared->Prop}(hu:A.units+1<cLine) (I:Inv X pins U H s) (e:H a=some (dE a its)) (ks:gL X.K H its) (kb:a9 X.K H b (k.map kV)) (l:its.length<sizeLine)
  (h:∀s',Inv X pins U (upd H a (dE a (storedH its k b r))) s'->Q () s'):wpAny (model X.prog X.w) A (setItem (.ref a) (.ref b) r) Q E s:=by
 obtain ⟨z,hd,dd⟩:=qp I e ks
 refine wpAny_setItem_heap (hsz:=z) (tupleKind_room_in1 hu) (qo I kb) dd λh' lY hs=>h _ ?_
 obtain ⟨q,es,ep,hq,h2,h3,h4,_,h5⟩:=lY
 exact zev I (by rw [e];exact True.intro) hs ⟨q,hq⟩ (Es (by have:=Qa its k b r;omega) hd hq h2 h3 h4 h5)
def Inv.turnE (I:Inv X pins U H s) (ha:H a=some (.dK [])):Inv X pins U (upd H a (dE a [])) s:=by
 obtain ⟨z,hd,vs,rel,o,es,ep,h1,h2,h3,h4,h6,h5⟩:=CG I.hok ha
 cases rel
 have hz:es.toList=[]:=by
  have:=h6.length
  exact List.length_eq_zero_iff.mp this
 exact I.un (h':=s.heap) (t':=s.toks) (Un.write (e:=a) (by rw [ha];trivial) (.inl rfl) (λb u _ q=>q) ⟨o,h1⟩) (bZ.write (e:=a) I.hok (by rw [ha];trivial) (.inl rfl) (λb u _ q=>q) ⟨o,h1⟩ (Es (jj _) hd h1 h2 h3 hz List.nodup_nil))
def gh (H:Hp) (a:Addr) (H':Hp) (its:List (List Key×Addr×Value)):Prop:=(H'=H/\H a=some (dE a its))\/(H a=some (.dK [])/\its=[]/\H'=upd H a (dE a []))
def gh.inv (t:gh H a H' its) (I:Inv X pins U H s):Inv X pins U H' s/\H' a=some (dE a its):=by
 rcases t with ⟨rfl,e⟩|⟨e,rfl,rfl⟩
 ·exact ⟨I,e⟩
 ·exact ⟨I.turnE e,y0⟩
def xV (K:Frag) (neg:Bool):R2:=λx y H Q=>∃a b k its H',x=.ref b/\y=.ref a/\gh H a H' its/\gL K H' its/\a9 K H' b (k.map kV)/\Q (.bl (neg.xor (atKey its k).isSome)) H'
def Qc (hu:X.A.units+200<cLine):ba X (compareOp .In) (xV X.K false):=by
 intro pins s U H x y v u Q I rx ry ⟨a,b,k,its,H',ex,ey,t,ks,kb,q⟩
 subst ex ey
 obtain rfl:v=Value.ref b:=rx
 obtain rfl:u=Value.ref a:=ry
 obtain ⟨I',e⟩:=t.inv I
 exact P9 (by omega) I' e ks kb λs' I2=>⟨.bl (atKey its k).isSome,H',I2,rfl,by simpa using q⟩
def Qd (hu:X.A.units+200<cLine):ba X (compareOp .NotIn) (xV X.K true):=by
 intro pins s U H x y v u Q I rx ry ⟨a,b,k,its,H',ex,ey,t,ks,kb,q⟩
 subst ex ey
 obtain rfl:v=Value.ref b:=rx
 obtain rfl:u=Value.ref a:=ry
 obtain ⟨I',e⟩:=t.inv I
 exact P_ (by omega) I' e ks kb λs' I2=>⟨.bl (!(atKey its k).isSome),H',I2,rfl,by simpa using q⟩
def Qe (K:Frag):R2:=λx y H Q=>∃a b k its H' p v,x=.ref a/\y=.ref b/\gh H a H' its/\gL K H' its/\a9 K H' b (k.map kV)/\atKey its k=some p/\RelV v p.2/\Q v H'
def Qf (hu:X.A.units+1<cLine):fI X (Qe X.K):=by
 intro value slice pins s U H x y v u Q I rx ry ⟨a,b,k,its,H',p,w,ex,ey,t,ks,kb,hp,rp,q⟩ hs
 subst ex ey
 obtain rfl:v=Value.ref a:=rx
 obtain rfl:u=Value.ref b:=ry
 obtain ⟨I',e⟩:=t.inv I
 obtain ⟨_,_,dd⟩:=qp I' e ks
 exact PyProof.Rows.tail_any dd.typeIs PySem.F.slot_dict_getitem.lookup (P8 hu I' e ks kb hp λs' I2=>⟨w,H',I2,rp,q⟩) hs
def Qg (K:Frag) (td ty tv:TE):TS:=λD U H=>tv U H λv H1=>td U H1 λx H2=>ty U H2 λy H3=>(∃a H4,x=.ref a/\dU H3 a y v H4/\D.nx U H4) \/
 ∃a b k its H4,x=.ref a/\y=.ref b/\gh H3 a H4 its/\gL K H4 its/\a9 K H4 b (k.map kV)/\its.length<sizeLine/\∀u,RelV v u->D.nx U (upd H4 a (dE a (storedH its k b u)))
def Qh {o i value:Expr}{pos pos':Pos}{td ty tv:TE}(hu:X.A.units+1<cLine) (ho:PE X o td) (hi:PE X i ty) (hv:PE X value tv) (hs:swapsWith value (some (.Subscript o i pos')) pos.line X.env=pure false) :
  PS X (.Assign [.Subscript o i pos'] value pos) (Qg X.K td ty tv):=by
 intro pins s U H D I h
 refine wpAny_Assign_Subscript (aV (hv pins s U H _ I h) λr s1 ⟨v,H1,I1,rv,q1⟩=>aV (ho pins s1 U H1 _ I1 q1) λu s2 ⟨x,H2,I2,rx,q2⟩=>aV (hi pins s2 U H2 _ I2 q2) λiv s3 ⟨y,H3,I3,ry,q3⟩=>?_) hs
 rcases q3 with ⟨a,H4,ex,g,q3⟩|⟨a,b,k,its,H4,ex,ey,t,ks,kb,l,q3⟩
 ·subst ex
  obtain rfl:u=Value.ref a:=rx
  exact vI hu I3 g ry rv λs4 I4=>⟨U,H4,I4,q3⟩
 ·subst ex ey
  obtain rfl:u=Value.ref a:=rx
  obtain rfl:iv=Value.ref b:=ry
  obtain ⟨I',e⟩:=t.inv I3
  exact Qb hu I' e ks kb l λs4 I4=>⟨U,_,I4,q3 r rv⟩
end
end L2
namespace Mi
open PySem L2 PySem.W PySem.Spec
section
variable {X:Cx}{Er:XK}{K:Frag}{mg:Ab}{ρ:Ae}{H:Hp}{st:aa}{pos pos':Pos}{o:Expr}
def Et:PV->Option Key
 | .int i=>some (.inl i)
 | .str z=>some (.inr z)
 | _=>none
def cJ:List PV->Option (List Key)
 | []=>some []
 | x::r=>match Et x,cJ r with
  | some k,some l=>some (k::l)
  | _,_=>none
theorem tI:∀{xs:An}{vs:List V}{k:List Key},Rs K mg ρ H xs vs->cJ xs=some k->vs=k.map kV
 | [],vs,k,r,h=>by cases h;cases r;rfl
 | x::xs,vs,k,r,h=>by
  obtain ⟨v,ws,rfl,h1,h2⟩:=r
  unfold cJ at h
  split at h
  ·rename_i k0 l hk hl
   cases h
   rw [tI h2 hl,yJ]
   congr 1
   cases x with
   | int i=>cases hk;exact h1
   | str z=>cases hk;exact h1
   | _=>cases hk
  ·cases h
def bR:Option SO->Option (List (List Key)×List PV)
 | some (.dit ks xs)=>some (ks,xs)
 | some (.dic [] [])=>some ([],[])
 | _=>none
def xW {n:Nat}{a:Addr}{ks:Ag}{xs:An}(s:a7 K mg ρ H st) (ha:ρ[n]?=some a) (h:bR st[n]?=some (ks,xs)) :
  ∃H' its vs,gh H a H' its/\Ext ρ H ρ H'/\a7 K mg ρ H' (st.set n (.dit ks xs))/\its.map (·.1)=ks/\gL K H' its/\Vals vs (its.map (·.2.2))/\Rs K mg ρ H' xs vs:=by
 unfold bR at h
 split at h
 ·rename_i b_ cM e
  cases h
  obtain ⟨its,vs,h1,h2,h3,h4,h5⟩:=s.addr e ha
  refine ⟨H,its,vs,.inl ⟨rfl,h1⟩,Ext.refl,?_,h2,h3,h4,h5⟩
  have:st.set n (.dit ks xs)=st:=by
   obtain ⟨hl,he⟩:=yv.mp e
   rw [<-he,List.set_getElem_self]
  rw [this];exact s
 ·rename_i e
  cases h
  obtain ⟨vs,h1,h2,h3⟩:=s.addr e ha
  cases h2
  have ew:Ext ρ H ρ (upd H a (dE a [])):=Ext.write h1 rfl
  exact ⟨_,[],[],.inr ⟨h1,rfl,rfl⟩,ew,s.write ha ew ⟨[],[],y0,rfl,(λx hx=>nomatch hx),.nil,rfl⟩,rfl,(λx hx=>nomatch hx),.nil,rfl⟩
 ·cases h
def cq (k:List Key) (ks:Ag):Bool:=ks.any λz=>decide (z=k)
def Qi {k:List Key}{ks:Ag}:cq k ks=true↔k∈ks:=by
 unfold cq
 rw [List.any_eq_true]
 exact ⟨λ⟨x,h,e⟩=>(of_decide_eq_true e)▸h,λh=>⟨k,h,jJ rfl⟩⟩
theorem xX {k:List Key}:∀{its:List (List Key×Addr×Value)},(atKey its k).isSome=cq k (its.map (·.1))
 | []=>rfl
 | x::r=>by
  have ih:=xX (k:=k) (its:=r)
  unfold atKey at ih ⊢
  rw [List.find?_cons,yJ,show cq k (x.1::r.map (·.1))=(decide (x.1=k)||cq k (r.map (·.1))) from rfl]
  by_cases h:x.1=k
  ·rw [jJ h];rfl
  ·rw [jr h];exact ih
def g_ {α:Type}(k:List Key):List (List Key)->List α->Option α
 | z::zs,x::xs=>if z=k then some x else g_ k zs xs
 | _,_=>none
theorem Eu {k:List Key}{q:PV}:∀{its:List (List Key×Addr×Value)}{vs:List V}{xs:An},Vals vs (its.map (·.2.2))->Rs K mg ρ H xs vs->g_ k (its.map (·.1)) xs=some q->∃p v,atKey its k=some p/\RelV v p.2/\R K mg ρ H q v
 | [],_,xs,_,_,h=>by cases xs<;>cases h
 | x::r,_,[],hv,hr,h=>by cases h
 | x::r,vs,y::ys,hv,hr,h=>by
  obtain ⟨v,ws,rfl,h1,h2⟩:=hr
  rw [yJ] at hv
  cases hv with
  | cons g t =>
   rw [yJ] at h
   unfold g_ at h
   unfold atKey
   rw [List.find?_cons]
   by_cases e:x.1=k
   ·rw [zx e] at h
    cases h
    rw [jJ e]
    exact ⟨x.2,v,rfl,g,h1⟩
   ·rw [zH e] at h
    obtain ⟨p,v',a1,a2,a3⟩:=Eu t h2 h
    rw [jr e]
    exact ⟨p,v',a1,a2,a3⟩
def cA (old:Am) (neg:Bool) (x y:PV):Mo PV:=λst=>match x,y with
 | .tup zs,.ref n=>match cJ zs,bR st[n]? with
  | some k,some (ks,xs)=>.ok (.bl (neg.xor (cq k ks))) (st.set n (.dit ks xs))
  | _,_=>old x y st
 | _,_=>old x y st
def Qj {old:Am}{neg:Bool}{x y:PV}:cA old neg x y st=old x y st\/∃zs n k ks xs,x=.tup zs/\y=.ref n/\cJ zs=some k/\bR st[n]?=some (ks,xs)/\cA old neg x y st=.ok (.bl (neg.xor (cq k ks))) (st.set n (.dit ks xs)):=by
 unfold cA
 split
 ·rename_i zs n
  cases h1:cJ zs with
  | none=>exact .inl rfl
  | some k =>
   cases h2:bR st[n]? with
   | none=>exact .inl rfl
   | some p=>exact .inr ⟨zs,n,k,p.1,p.2,rfl,rfl,h1,h2,rfl⟩
 ·exact .inl rfl
def Ew {r:R2}{old:Am}{neg:Bool}(m:d5 K mg r old):d5 K mg (λx y H Q=>r x y H Q\/xV K neg x y H Q) (cA old neg):=by
 intro ρ H st x y v w Q E s rx ry h
 rcases Qj (old:=old) (neg:=neg) (x:=x) (y:=y) (st:=st) with e|⟨zs,n,k,ks,xs,rfl,rfl,h1,h2,e⟩
 ·rw [e] at h;exact .inl (m ρ H st x y v w Q E s rx ry h)
 ·rw [e] at h
  obtain ⟨b,us,rfl,hb,ru⟩:=rx
  obtain ⟨a,rfl,ha⟩:=ry
  obtain ⟨H',its,vs,t,ex,s',hk,hq,hv,hr⟩:=xW s ha h2
  have:=tI ru h1
  subst this
  refine .inr ⟨a,b,k,its,H',rfl,rfl,t,hq,ex.sqT hb,?_⟩
  rw [xX,hk]
  exact h ρ H' ex s' _ rfl
def ba.or' {f:Value->Value->Sem Value}{r r':R2}(a:ba X f r) (b:ba X f r'):ba X f (λx y H Q=>r x y H Q\/r' x y H Q):=by
 intro pins s U H x y v u Q I rx ry h
 rcases h with h|h
 ·exact a pins s U H x y v u Q I rx ry h
 ·exact b pins s U H x y v u Q I rx ry h
def Qk {old:Am}(hu:X.A.units+200<cLine) (c:bJ X .In old):bJ X .In (cA old false):=by
 obtain ⟨r,h1,h2⟩:=c
 exact ⟨_,ba.or' h1 (Qc hu),Ew h2⟩
def Ql {old:Am}(hu:X.A.units+200<cLine) (c:bJ X .NotIn old):bJ X .NotIn (cA old true):=by
 obtain ⟨r,h1,h2⟩:=c
 exact ⟨_,ba.or' h1 (Qd hu),Ew h2⟩
def aP (old:Am) (x y:PV):Mo PV:=λst=>match x,y with
 | .ref n,.tup zs=>match cJ zs,bR st[n]? with
  | some k,some (ks,xs)=>bP (g_ k ks xs) (st.set n (.dit ks xs))
  | _,_=>old x y st
 | _,_=>old x y st
def Qm {old:Am}{x y:PV}:aP old x y st=old x y st\/∃zs n k ks xs,y=.tup zs/\x=.ref n/\cJ zs=some k/\bR st[n]?=some (ks,xs)/\aP old x y st=bP (g_ k ks xs) (st.set n (.dit ks xs)):=by
 unfold aP
 split
 ·rename_i n zs
  cases h1:cJ zs with
  | none=>exact .inl rfl
  | some k =>
   cases h2:bR st[n]? with
   | none=>exact .inl rfl
   | some p=>exact .inr ⟨zs,n,k,p.1,p.2,rfl,rfl,h1,h2,rfl⟩
 ·exact .inl rfl
def yU {old:Am}(hu:X.A.units+200<cLine) (c:kE X old):kE X (aP old):=by
 obtain ⟨r,h1,h2⟩:=c
 refine ⟨_,h1.or (Qf (by omega)),fun ρ H st x y v w Q E s rx ry h=>?_⟩
 rcases Qm (old:=old) (x:=x) (y:=y) (st:=st) with e|⟨zs,n,k,ks,xs,rfl,rfl,k1,k2,e⟩
 ·rw [e] at h;exact .inl (h2 ρ H st x y v w Q E s rx ry h)
 ·rw [e] at h
  obtain ⟨a,rfl,ha⟩:=rx
  obtain ⟨b,us,rfl,hb,ru⟩:=ry
  obtain ⟨H',its,vs,t,ex,s',hk,hq,hv,hr⟩:=xW s ha k2
  have:=tI ru k1
  subst this
  cases hl:g_ k ks xs with
  | none=>rw [hl] at h;exact h.elim
  | some q =>
   rw [hl] at h
   rw [<-hk] at hl
   obtain ⟨p,v,a1,a2,a3⟩:=Eu hv hr hl
   exact .inr ⟨a,b,k,its,H',p,v,rfl,rfl,t,hq,ex.sqT hb,a1,a2,h ρ H' ex s' _ a3⟩
end
section
variable {X:Cx}{Er:XK}{K:Frag}{mg:Ab}{ρ:Ae}{H:Hp}{st:aa}{pos pos':Pos}{o:Expr}
def gM {α:Type}(z:List Key) (x:α):List (List Key)->List α->List α
 | k::ks,y::ys=>(if k=z then x else y)::gM z x ks ys
 | _,ys=>ys
def ww (z:List Key) (x:PV) (ks:Ag) (xs:An):List (List Key)×List PV:=if cq z ks=true then (ks,gM z x ks xs) else (ks++[z],xs++[x])
def xY {k:List Key}{u:Value}(x:List Key×Addr×Value):(PySem.putAt k u x).1=x.1/\(PySem.putAt k u x).2.1=x.2.1:=by
 unfold PySem.putAt
 split<;>exact ⟨rfl,rfl⟩
theorem Ex {k:List Key}{u:Value}{x:PV}{v:V}(rx:R K mg ρ H x v) (ru:RelV v u):∀{its:List (List Key×Addr×Value)}{vs:List V}{xs:An},Vals vs (its.map (·.2.2))->Rs K mg ρ H xs vs ->
  ∃ws,Vals ws ((its.map (PySem.putAt k u)).map (·.2.2))/\Rs K mg ρ H (gM k x (its.map (·.1)) xs) ws
 | [],vs,xs,hv,hr=>by
  rw [List.map_nil] at hv
  cases hv
  cases xs with
  | nil=>exact ⟨[],.nil,rfl⟩
  | cons y ys=>obtain ⟨_,_,z,_⟩:=hr;cases z
 | p::r,vs,[],hv,hr=>by
  cases hr
  rw [yJ] at hv
  cases hv
 | p::r,vs,y::ys,hv,hr=>by
  obtain ⟨w,ws,rfl,h1,h2⟩:=hr
  rw [yJ] at hv
  cases hv with
  | cons g t =>
   obtain ⟨zs,a1,a2⟩:=Ex rx ru t h2
   by_cases e:p.1=k
   ·refine ⟨v::zs,?_,v,zs,rfl,?_,a2⟩
    ·rw [yJ,yJ]
     refine .cons ?_ a1
     unfold PySem.putAt;rw [zx e];exact ru
    ·rw [zx e];exact rx
   ·refine ⟨w::zs,?_,w,zs,rfl,?_,a2⟩
    ·rw [yJ,yJ]
     refine .cons ?_ a1
     unfold PySem.putAt;rw [zH e];exact g
    ·rw [zH e];exact h1
def Qn {k:List Key}{u:Value}{x:PV}{v:V}{b:Addr}{its:List (List Key×Addr×Value)}{vs:List V}{xs:An}(rx:R K mg ρ H x v) (ru:RelV v u) (hq:gL K H its) (hb:a9 K H b (k.map kV)) (hv:Vals vs (its.map (·.2.2))) (hr:Rs K mg ρ H xs vs) :
  ∃ws,(storedH its k b u).map (·.1)=(ww k x (its.map (·.1)) xs).1/\gL K H (storedH its k b u)/\Vals ws ((storedH its k b u).map (·.2.2))/\Rs K mg ρ H (ww k x (its.map (·.1)) xs).2 ws:=by
 unfold storedH ww
 rw [xX]
 by_cases hc:cq k (its.map (·.1))=true
 ·rw [zx hc,zx hc]
  obtain ⟨ws,a1,a2⟩:=Ex (k:=k) rx ru hv hr
  refine ⟨ws,?_,λy hy=>?_,a1,a2⟩
  ·rw [List.map_map]
   exact List.map_congr_left λy _=>(xY y).1
  ·obtain ⟨z,hz,rfl⟩:=jE.mp hy
   rw [(xY z).1,(xY z).2]
   exact hq z hz
 ·rw [zH hc,zH hc]
  refine ⟨vs++[v],by simp,λy hy=>?_,?_,hr.append ⟨v,[],rfl,rx,rfl⟩⟩
  ·rcases ju.mp hy with h|h
   ·exact hq y h
   ·obtain rfl:=jy.mp h;exact hb
  ·rw [wL]
   exact hv.append (.cons ru .nil)
def iQ (z x o:PV):Mo Unit:=λst=>match z,o with
 | .tup zs,.ref n=>match cJ zs,bR st[n]? with
  | some k,some (ks,xs)=>if ks.length<lim then .ok () (st.set n (.dit (ww k x ks xs).1 (ww k x ks xs).2)) else .stuck
  | _,_=>.stuck
 | _,_=>jG z x o st
def Qo {z x o:PV}:iQ z x o st=jG z x o st\/iQ z x o st=.stuck\/∃zs n k ks xs,z=.tup zs/\o=.ref n/\cJ zs=some k/\bR st[n]?=some (ks,xs)/\ks.length<lim/\iQ z x o st=.ok () (st.set n (.dit (ww k x ks xs).1 (ww k x ks xs).2)):=by
 unfold iQ
 split
 ·rename_i zs n
  cases h1:cJ zs with
  | none=>exact .inr (.inl rfl)
  | some k =>
   cases h2:bR st[n]? with
   | none=>exact .inr (.inl rfl)
   | some p =>
    by_cases hc:p.1.length<lim
    ·exact .inr (.inr ⟨zs,n,k,p.1,p.2,rfl,rfl,h1,h2,hc,zx hc⟩)
    ·exact .inr (.inl (zH hc))
 ·exact .inl rfl
def iR (fo fi fv:Ai):Aj:=λenv st=>(fv env st).bind λx ae=>(fo env ae).bind λo aA=>(fi env aA).bind λz a0=>(iQ z x o a0).bind λ_ cY=>.ok (.nx env) cY
theorem Qp {env:zd}{U:L2.St}{D:Ends}{zz x y:PV}{u v w:V}(s3:a7 K mg ρ H st) (re:a8 K mg ρ H env U) (rv:R K mg ρ H x v) (dn:R K mg ρ H y w) (ru:R K mg ρ H zz u)
  (h3:Out K mg ρ H ((jG zz x y st).bind λ_ cY=>.ok (.nx env) cY) (gS K mg D) Er):∃a H4,w=.ref a/\dU H a u v H4/\D.nx U H4:=by
 cases y with
 | ref n =>
  cases zz with
  | str z =>
   cases hn:st[n]? with
   | none=>simp only [jG,ja,hn] at h3;exact h3.elim
   | some so =>
    cases so with
    | dic ks xs =>
     simp only [jG,ja,hn] at h3
     by_cases hc:ks.length<lim
     ·rw [zx hc] at h3
      obtain ⟨a,vs,e4,ha,k1,k2,k3⟩:=R.refD s3 dn hn
      subst e4
      cases ru
      obtain ⟨ws,q1,q2,q3⟩:=xv (z:=z) rv k3 k2
      have hlen:(kz ks vs).length<sizeLine:=by
       have:(kz ks vs).length=ks.length:=by simp [kz,k3]
       rw [this,sizeLine_eq]
       have:ks.length<1000000:=hc
       omega
      have g:=dU.k (k:=Sum.inr z) (v:=v) k1 hlen
      have ew:Ext ρ H ρ (upd H a (.dK (L2.putK (kz ks vs) (Sum.inr z) v))):=Ext.write k1 rfl
      exact ⟨a,_,rfl,g,h3 ρ _ ew (s3.write ha ew ⟨ws,by rw [y0,q1],Rs.ext ew _ q2,q3⟩) U (re.ext ew)⟩
     ·rw [zH hc] at h3;exact h3.elim
    | _=>simp only [jG,ja,hn] at h3;exact h3.elim
  | _=>exact h3.elim
 | _=>exact h3.elim
theorem zfg {i value:Expr}{fo fi fv:Ai}(hu:X.A.units+200<cLine) (ho:ME X Er o fo) (hi:ME X Er i fi) (hv:ME X Er value fv) (hs:swapsWith value (some (.Subscript o i pos')) pos.line X.env=pure false:=by rfl):MS X Er (.Assign [.Subscript o i pos'] value pos) (iR fo fi fv) :=
 PS.weak (Qh (by omega) ho hi hv hs) λD U H ⟨env,st,ρ,re,rs,h⟩=>⟨env,st,ρ,re,rs,h.then λag H1 x ae e1 s1 h1 v rv=>⟨env,ae,ag,re.ext e1,s1,h1.then λaq H2 y aA e2 s2 h2 w rw=>⟨env,aA,aq,(re.ext e1).ext e2,s2,h2.then λak H3 zz a0 e3 s3 h3 u ru=>by
  have Ey:=((re.ext e1).ext e2).ext e3
  have Ez:=R.ext e3 x (R.ext e2 x rv)
  have EC:=R.ext e3 _ rw
  rcases Qo (z:=zz) (x:=x) (o:=y) (st:=a0) with e|e|⟨zs,n,k,ks,xs,rfl,rfl,k1,k2,hc,e⟩
  ·rw [e] at h3;exact .inl (Qp s3 Ey Ez EC ru h3)
  ·rw [e] at h3;exact h3.elim
  ·rw [e] at h3
   obtain ⟨b,us,rfl,hb,Qq⟩:=ru
   obtain ⟨a,rfl,ha⟩:=EC
   obtain ⟨H',its,vs,t,ex,s',hk,hq,Qr,hr⟩:=xW s3 ha k2
   have:=tI Qq k1
   subst this
   have hl:its.length<sizeLine:=by
    have h1:its.length=ks.length:=by rw [<-hk,jk]
    have h2:ks.length<1000000:=hc
    rw [h1,sizeLine_eq];omega
   refine .inr ⟨a,b,k,its,H',rfl,rfl,t,hq,ex.sqT hb,hl,λuu Qs=>?_⟩
   subst hk
   have ea:H' a=some (dE a its):=by
    rcases t with ⟨rfl,e⟩|⟨_,rfl,rfl⟩
    ·exact e
    ·exact y0
   have ew:Ext ak H' ak (upd H' a (dE a (storedH its k b uu))):=Ext.write ea (Mv X.prog X.w)
   obtain ⟨ws,q1,q2,q3,q4⟩:=Qn (k:=k) (b:=b) (R.ext ex x Ez) Qs hq (ex.sqT hb) Qr hr
   have sw:=s'.write (so:=.dit (ww k x (its.map (·.1)) xs).1 (ww k x (its.map (·.1)) xs).2) ha ew ⟨_,ws,y0,q1,λy hy=>ew.sqT (q2 y hy),q3,Rs.ext ew _ q4⟩
   rw [List.set_set] at sw
   exact h3 ak _ (ex.trans ew) sw U ((Ey.ext ex).ext ew)⟩⟩⟩
end
section
variable {X:Cx}{K:Frag}{mg:Ab}{ρ:Ae}{H:Hp}{st:aa}
end
end Mi
namespace L2
open PySem PySem.Spec PyProof.Rows PySem.W
def uR (K:Frag) (a:Addr):It :=
 ⟨λi H=>∃xs x,a9 K H a xs/\xs[i]?=some x,
  λi H v H'=>∃T x,H T=none/\v=.ref T/\H'=upd H T (.tup [.int i,x])/\∀xs,a9 K H a xs->xs[i]?=some x,
  λi H=>∃xs,a9 K H a xs/\xs.length<=i⟩
def uS (e it a:Addr) (k:Nat) (h:Heap):Prop:=(∃old,IsEnum h e it k old)/\IsTupIter h it a k
def Qt {prog:Program}{w:World}{A:Around}{it t:Addr}{xs:Array Value}(ne:t≠it) (hh:A.handled=none):Draws prog w A it [it,t] xs.size (λi x=>xs[i]?=some x) (pJ it t xs) where
 live:=λi h q=>let ⟨⟨o,ho,_⟩,_⟩:=q;⟨o,ho⟩
 frame:=λi h h' q k=>(iF (prog:=prog) (w:=w) ne).at_ q (k it (by simp)) (k t (by simp))
 item:=λi s Q E hi q hQ=>(iF ne).item q (Array.getElem?_eq_getElem hi) λh' q' sb=>hQ _ h' s.toks (Array.getElem?_eq_getElem hi) q' sb
 done:=λs Q E q hE=>(iF ne).stop hh q (Array.getElem?_eq_none (ye _)) hE
theorem Qu {prog:Program}{w:World}{A:Around}{E:Aa}{s:Shared}{e it t:Addr}{i:Nat}{xs:Array Value}{old:Value}{Q:Option Value->Shared->Prop}(ne:t≠it) (hh:A.handled=none)
  (he:IsEnum s.heap e it i old) (hit:IsTupIter s.heap it t i) (p:IsTup s.heap t xs) (hi:xs.size<=i) (hQ:∀h',Heap.ExtBut it s.heap h'->Q none { s with heap:=h' }):wpAny (model prog w) A (pyNext (.ref e)) Q E s:=by
 have D:Draws prog w A.in1 it [it,t] i (λj x=>xs[j]?=some x/\j<i/\False) (λj h=>j=i/\pJ it t xs j h):=⟨λj h q=>let ⟨_,⟨o,ho,_⟩,_⟩:=q;⟨o,ho⟩,λj h h' q k=>⟨q.1,(iF (prog:=prog) (w:=w) ne).at_ q.2 (k it (by simp)) (k t (by simp))⟩,
  λj s Q E hj q _=>absurd q.1 (by omega),λs Q E q hE=>(iF ne).stop hh q.2 (Array.getElem?_eq_none hi) hE⟩
 exact wpAny_pyNext_enum_endD D he ⟨rfl,hit,p⟩ hQ
def Qv {P:Program}{w:World}{K:Frag}{elts:List Expr}{kt:Nat}{pos:Pos}{e it a:Addr}(ne:e≠it):Turn P w K (.Tuple elts kt pos) (uR K a) [e,it] e (uS e it a) where
 mem:=by simp
 obj:=λi h st c hc=>by
  obtain ⟨⟨old,he⟩,⟨o1,e1,_,d1⟩⟩:=st
  simp only [yF,List.not_mem_nil,h_] at hc
  rcases hc with q|q<;>rw [q]
  ·exact ⟨_,he,λv z=>by cases z⟩
  ·exact ⟨_,e1,λv z=>by rw [d1] at z;cases z⟩
 keep:=λi h h' st k=>by
  obtain ⟨⟨old,he⟩,⟨o1,e1,r1⟩⟩:=st
  exact ⟨⟨old,k e (by simp) _ he⟩,⟨o1,k it (by simp) _ e1,r1⟩⟩
 item:=by
  intro X hP hw hK hc i pins s U H E I hf st hg
  subst hP hw hK
  obtain ⟨xs,x,hq,hx⟩:=hg
  obtain ⟨⟨old,he⟩,hit⟩:=st
  obtain ⟨its,rv,p,hz⟩:=I.tuple hq
  obtain ⟨u,hu,ru⟩:=rv.get hx
  have n1:∀c∈[e,it],a≠c:=λc h=>nH I (hf c h) hq
  have na:a≠it:=n1 it (by simp)
  have Qw:a≠e:=n1 e (by simp)
  have bw:i<its.toArray.size:=by have:=(yv.mp hu).1;simpa using this
  refine wpAny_pyNext_enum_itemD (D:=Qt (A:=X.A.in1) na (I.ok.hd hc)) he ⟨hit,p⟩ bw ne (by simp;exact ⟨ne,λz=>Qw z.symm⟩) λx1 h1 tk Qx eo p5 pT hsz kk=>⟨_,rfl,?_⟩
  have xu:x1=u:=by
   have h0:its.toArray[i]?=some x1:=Qx
   rw [List.getElem?_toArray,hu] at h0
   exact (Option.some.inj h0).symm
  subst xu
  refine wpAny_letOwnedTupleGo_enum (s:={ s with heap:=h1,toks:=tk+1 }) eo λh2 e2 sb=>?_
  have fr:H s.heap.objs.size=none:=I.hok.fresh (ye _)
  have up:∀c o,c≠e->h1.get? c=some o->h2.get? c=some o:=λc o n q=>sb.extBut _ _ n q
  have nz:s.heap.objs.size≠e:=Nat.ne_of_gt (ym he)
  have k2:∀c o,c∉[e,it]->s.heap.get? c=some o->h2.get? c=some o:=λc o nc q=>up c o (λz=>nc (by simp [z])) (kk c o (λz=>nc (by simp [z])) (λz=>nc (by simp [z])) q)
  refine ⟨.ref s.heap.objs.size,upd H s.heap.objs.size (.tup [.int i,x]),?_,rfl,⟨s.heap.objs.size,x,fr,rfl,rfl,λys hy=>by rw [I.tuple_inj hy hq];exact hx⟩,?_,λc cQ=>?_⟩
  ·exact Inv.turnN (s:=s) (h':=h2) (t':=tk+1) I hf k2 (ye _) ⟨show 2<=sizeLine by decide,[.int i tk,x1],.cons ⟨_,rfl⟩ (.cons ru .nil),_,up _ _ nz pT,rfl,_,rfl⟩
  ·refine ⟨⟨x1,by rw [show ((i+1:Nat):Int)=(i:Int)+1 from rfl];exact e2⟩,let ⟨⟨o,q,r⟩,_⟩:=p5;⟨o,up _ _ ne.symm q,r⟩⟩
  ·have lt:∃o,s.heap.get? c=some o:=by
    simp only [yF,List.not_mem_nil,h_] at cQ
    rcases cQ with q|q<;>rw [q]
    ·exact ⟨_,he⟩
    ·exact let ⟨o,q,_⟩:=hit;⟨o,q⟩
   obtain ⟨o,q⟩:=lt
   have z:c≠s.heap.objs.size:=yK (ym q)
   rw [yc z]
   exact (hf c cQ).1
 done:=by
  intro X hP hw hK hc i pins s U H E I hf st hg
  subst hP hw hK
  obtain ⟨xs,hq,hx⟩:=hg
  obtain ⟨⟨old,he⟩,hit⟩:=st
  obtain ⟨its,rv,p,hz⟩:=I.tuple hq
  have hl:=rv.length
  have n1:∀c∈[e,it],a≠c:=λc h=>nH I (hf c h) hq
  refine Qu (n1 it (by simp)) (I.ok.hd hc) he hit p (by simp;omega) λh' eb=>⟨rfl,?_⟩
  exact Inv.turnL (ch:=[e,it]) (t':=s.toks) I hf λc o nc q=>eb c o (λz=>nc (by simp [z])) q
 self:=λ_ _ _ _ _ st h=>by
  obtain ⟨⟨old,he⟩,_⟩:=st
  exact wpAny_pyIter_enum he h
def Qy (K:Frag) (ta:TA):TI:=λU H R=>ta U H λvs H1=>∃a,vs=[.ref a]/\(∃xs,a9 K H1 a xs)/\R (uR K a) H1
abbrev tJ (h:Heap) (a:Addr):Heap:=h.push { cls:=.type "tuple_iterator", data:=.fields #[.ref a,.int 0 0] }
abbrev nZ (h:Heap) (a:Addr):Heap:=(tJ h a).push { cls:=.type "enumerate", data:=.fields #[.none,.bool false,.ref h.objs.size,rawInt 0,.none,.none] }
def Qz (a:Addr) (xs:Array Value) :
  Meets (Builtin.«enumerate.__new__» ⟨[.type "enumerate", .ref a],[]⟩) (λ_ R s=>IsTup s.heap a xs/\R (.ok (.ret (.ref (tJ s.heap a).objs.size))) { s with heap:=nZ s.heap a }) :=
 .of_wp λprog w A R s h=>by
  obtain ⟨hp,g,d,tk,os⟩:=s
  obtain ⟨h1,h⟩:=h
  have CZ:=sub_enumerate
  have H1:IsTup (Shared.heap ⟨hp,g,d,tk,os⟩) a xs:=h1
  obtain ⟨⟨cl,dd,dt,sl⟩,ho,hcl,n,hd⟩:=id H1
  replace hcl:cl=.type "tuple" := hcl
  replace hd:dt=.seq xs n:=hd
  subst hcl hd
  wp_walk using AutoSeq1.wpAny_loadPart' ho
  refine wpAny_stack_any λst=>zM ?_
  split
  ·rename_i c _ _ _ _ _
   cases (c==Value.type "enumerate")
   all_goals (wp_walk using AutoSeq1.wpAny_loadPart' ho,iter_tuple H1;exact ⟨_,rfl,h⟩)
  ·wp_walk using AutoSeq1.wpAny_loadPart' ho,iter_tuple H1
   exact ⟨_,rfl,h⟩
def QA {prog:Program}{w:World}{A:Around}{E:Aa}{s:Shared}{a:Addr}{xs:Array Value}{Q:Aa}(h1:IsTup s.heap a xs)
  (h:uS (s.heap.objs.size+1) s.heap.objs.size a 0 (nZ s.heap a)->Q (.ref (s.heap.objs.size+1)) { s with heap:=nZ s.heap a }) :
  wpAny (model prog w) A (call (.type "enumerate") [.ref a]) Q E s:=by
 refine callType_new F.called_enumerate (by decide) (F.typeCall_enumerate_1 _) (F.newCall_enumerate_1 _) (λobj=>F.args_object_init_2 obj _) F.entry_enumerate_new (Qz a xs) ⟨h1,?_⟩
 have z1:(tJ s.heap a).objs.size=s.heap.objs.size+1:=Heap.size_push ..
 have g2:(nZ s.heap a).get? (tJ s.heap a).objs.size=some _:=yY _ rfl
 have g1:(nZ s.heap a).get? s.heap.objs.size=some _:=yk _ (yY _ rfl)
 show _/\_
 rw [z1] at g2
 rw [z1]
 exact ⟨⟨_,g2,rfl⟩,h ⟨⟨_,g2⟩,⟨_,g1,rfl,rfl⟩⟩⟩
theorem QB {X:Cx} {elts:List Expr} {kt:Nat} {tp:Pos} {x:Expr} {ta:TA} {p pos:Pos} (hg:Gl X "enumerate") (hm:X.mg "enumerate" = none) (ha:PA X [x] ta) (hs:starEach [x] X.env=[(false,eval x X.env)]:=by rfl) :
  PI X (.Tuple elts kt tp) (.Call (.Name "enumerate" p) [x] [] pos) (Qy X.K ta):=by
 intro pins s U H R I h
 refine Call_ (lE I hg hm DQ (PyProof.Rows.callWith_type1 (aV (ha pos pins s U H _ I h) λus s1 ⟨vs,H1,I1,r1,q1⟩=>?_) hs rfl))
 obtain ⟨a,e,⟨xs,hq⟩,q⟩:=q1
 subst e
 obtain ⟨u,rfl,ru⟩:=r1.one
 obtain rfl:u=Value.ref a:=ru
 obtain ⟨its,_,p1,_⟩:=I1.tuple hq
 have kk:∀b o,s1.heap.get? b=some o->(nZ s1.heap a).get? b=some o:=λb o q=>yk _ (yk _ q)
 refine QA p1 λest=>wpAny_pyIter_enum est.1.choose_spec ?_
 have ne:∀(n:Nat),n+1≠n:=λn z=>by omega
 refine ⟨_,[s1.heap.objs.size+1,s1.heap.objs.size],_,_,H1,rfl,I1.kept (t':=s1.toks) kk,Qv (ne _),est,λc hc=>?_,q⟩
 have le:s1.heap.objs.size<=c:=by
  simp only [yF,List.not_mem_nil,h_] at hc
  rcases hc with q|q<;>rw [q]<;>first|exact ye _|exact Nat.le_add_right _ _
 exact I1.fpOk le (I1.hok.fresh le)
end L2
namespace Mi
open PySem L2 PySem.W PySem.Spec
section
variable {X:Cx}{Er:XK}{fs:Ah}{pos:Pos}
def dQ (ft:Ak) (fe:Ai) (env:zd):Nat->List PV->Al
 | _,[],ys,st=>.ok (.ref st.length) (st++[.lst ys])
 | i,x::r,ys,st=>(bG (ft (some (.int i)::some x::env) st)).bind λb ae=>if b=true then (bG (fe (some (.int i)::some x::env) ae)).bind λy aA=>dQ ft fe env (i+1) r (ys++[y]) aA
   else dQ ft fe env (i+1) r ys ae
def tK:List PV->Mo (An)
 | [.tup xs],st=>if xs.length<=lim then .ok xs st else .stuck
 | _,_=>.stuck
def qq (fs:Ah) (ft:Ak) (fe:Ai):Ai:=λenv st=>(fs env st).bind λvs ae=>(tK vs ae).bind λxs ae=>dQ ft fe env 0 xs [] ae
def QC {α:Type}{K:Frag}{mg:Ab}{ρ:Ae}{H:Hp}{st:aa}{vs:An}{k:List PV->Mo α}{good:List Addr->Hp->α->aa->Prop}{E:XK}(h:Out K mg ρ H ((tK vs st).bind k) good E):∃xs,vs=[.tup xs]/\xs.length<=lim/\Out K mg ρ H (k xs st) good E:=by
 cases vs with
 | nil=>exact h.elim
 | cons v r =>
  cases r with
  | cons _ _=>cases v<;>exact h.elim
  | nil =>
   cases v with
   | tup xs =>
    by_cases hl:xs.length<=lim
    ·refine ⟨xs,rfl,hl,?_⟩
     have e:tK [.tup xs] st=.ok xs st:=zx hl
     rw [e] at h
     exact h
    ·have e:tK [.tup xs] st=.stuck:=zH hl
     rw [e] at h
     exact h.elim
   | _=>exact h.elim
theorem QD {elt e c:Expr} {x y:Str} {kt:Nat} {px py tp p ip:Pos} {scope:Scope} {ft:Ak} {fe:Ai} {N:Ad} (hc:X.calm=true) (S:cS X.env.scope scope [x,y]) (eN:X.N=N) (cv:((".0" : Str)::([x,y]++N)).Nodup)
  (hm:X.mg "enumerate" = none) (ha:MA X Er [e] fs) (iD:∀cl C af ah fp,MT (eW X scope cl [x,y] C af ah fp (λ_ _=>False)) XN c ft) (he:∀cl C af ah fp,ME (eW X scope cl [x,y] C af ah fp (λ_ _=>False)) XN elt fe)
  (hx:scope.names.lookup x=some .local:=by rfl) (hy:scope.names.lookup y=some .local:=by rfl) (p6:Gl X "enumerate" := by rfl) (bH:starEach [e] X.env=[(false,eval e X.env)]:=by rfl)
  (hs:∀v,foldedSetIterable (.Call (.Name "enumerate" p) [e] [] ip) X.env v=pure v:=by intro _;rfl) :
  ME X Er (.ListComp elt [⟨.Tuple [.Name x px,.Name y py] kt tp,.Call (.Name "enumerate" p) [e] [] ip,[c],0⟩] scope pos) (qq fs ft fe):=by
 have hN:([x,y]++X.N).Nodup:=by rw [eN];exact (jI.mp cv).2
 have f7:∀cl C af ah fp E,PG (eW X scope cl [x,y] C af ah fp E) (.Tuple [.Name x px,.Name y py] kt tp) (rz X.K 2 (lG (jX 0) (lG (jX 1) ro))):=λcl C af ah fp E=>rA (n:=2) hc
  (kf (wq (X:=eW X scope cl [x,y] C af ah fp E) (i:=0) hN rfl (.inl (jx hx)) (.inr (jx hx)))
  (kf (wq (X:=eW X scope cl [x,y] C af ah fp E) (i:=1) hN rfl (.inl (jx hy)) (.inr (jx hy))) rq))
 exact PE.weak (vB (te:=tM X.K X.mg XN fe) (tt:=l8 X.K X.mg XN ft) hc S eN cv (QB p6 hm ha bH) f7 (λcl C af ah fp=>vk (iD cl C af ah fp)) (λcl C af ah fp=>he cl C af ah fp) hs) λU H Q ⟨env,st,ρ,re,rs,h⟩=>⟨env,st,ρ,re,rs,h.then λar H0 vs df e0 s0 h0 us ru=>by
  obtain ⟨xs,rfl,uJ,h0⟩:=QC h0
  obtain ⟨v,rfl,rv⟩:=ru.one
  obtain ⟨a,p7,rfl,ED,xD⟩:=rv
  refine ⟨a,rfl,⟨_,ED⟩,?_⟩
  have ln:lim=1000000:=rfl
  refine ⟨λi m ys H=>m+i=lim+1/\i<=xs.length/\ys.length<=i/\∃ps st ρ,Rs X.K X.mg ρ H ps ys/\a7 X.K X.mg ρ H st/\Ext ar H0 ρ H/\Out X.K X.mg ρ H (dQ ft fe env i (xs.drop i) ps st) (gV X.K X.mg Q) Er,⟨lim+1,rfl,jj _,jj _,[],df,ar,rfl,s0,Ext.refl,h0⟩,?_⟩
  rintro i m ys H ⟨hm,hi,hy,ps,st,ρ,cw,rs,ex,h⟩
  have hq:=ex.sqT ED
  have hR:=Rs.ext ex _ xD
  cases hx:xs[i]? with
  | none =>
   have hl:xs.length<=i:=lD.mp hx
   rw [lz hl] at h
   exact .inl ⟨⟨p7,hq,by rw [<-hR.len];exact hl⟩,yR (by omega),λl hl=>Out.newList h rs cw hl⟩
  | some x =>
   have bw:i<xs.length:=(yv.mp hx).1
   have QE:xs.drop i=x::xs.drop (i+1):=by
    rw [jW bw]
    congr 1
    exact (yv.mp hx).2
   rw [QE] at h
   obtain ⟨v,hv,rv⟩:=hR.get hx
   refine .inr ⟨⟨p7,v,hq,hv⟩,yR (by omega),λv' H' y=>?_⟩
   obtain ⟨T,x',hT,rfl,rfl,y⟩:=y
   have e2:=y p7 hq
   rw [hv] at e2
   cases e2
   have bD:Ext ρ H ρ (upd H T (.tup [.int i,v])):=Ext.new hT
   refine ⟨T,[.int i,v],rfl,.inl (.inl y0),rfl,.int i,[v],rfl,v,[],rfl,rfl,[some (.int i),some v],rfl,rfl,?_⟩
   have gg:a8 X.K X.mg ρ (upd H T (.tup [.int i,v])) (some (.int i)::some x::env) (some (.int i)::some v::U):=(((re.ext (e0.trans ex)).ext bD).cons (R.ext bD x rv)).cons rfl
   refine ⟨_,st,ρ,gg,rs.new hT,jC (Out.ext h bD) λak H3 b a0 e3 s3 h3=>?_⟩
   obtain ⟨m,rfl⟩:∃m',m=m'+1:=⟨m-1,by omega⟩
   cases b with
   | true =>
    refine ⟨_,a0,ak,gg.ext e3,s3,jC h3 λaD H4 y cY e4 s4 h4 v4 r4=>⟨m,jK m,by omega,by omega,by simp;omega,ps++[y],cY,aD,Rs.snoc r4 (Rs.ext ((bD.trans e3).trans e4) ps cw),s4,((ex.trans bD).trans e3).trans e4,h4⟩⟩
   | false=>exact ⟨m,jK m,by omega,by omega,by omega,ps,a0,ak,Rs.ext (bD.trans e3) ps cw,s3,(ex.trans bD).trans e3,h3⟩⟩
end
section
variable {X:Cx}{Er:XK}{pos:Pos}{eR:List Stmt}{gb:Aj}{fs:Ah}
end
section
variable {X:Cx}
end
end Mi
namespace L2
open PySem PySem.Spec PyProof.Rows PySem.W
section
variable {X:Cx}{e:Expr}{te td ty:TE}{tv:TX}
def QF (z:Str) (te:TE):TE:=λU H Q=>te U H λv H1=>∃i:Int,v=.int i/\i.natAbs.log2<1920/\(z++(toString i:Str)).length<=sizeLine/\Q (.str (z++(toString i:Str))) H1
def tL (z:Str):Str.empty++z=z:=by
 show Str.mk (#[]++z.cps)=z
 simp
def QG {z:Str}{ck}{cp fp pos:Pos}(he:PE X e te) (hz:z.length<=sizeLine):PE X (.JoinedStr [.Constant (.str z) ck cp,.FormattedValue e (-1) none fp] pos) (QF z te):=by
 intro pins s U H Q I h
 refine wpAny_JoinedStr (Calls.Constant_str ⟨z,_,rfl,?_,?_⟩)
 ·rw [tL];exact hz
 ·refine wpAny_FormattedValue_plain (aV (he pins _ U H _ (I.tok _) h) λu s1 ⟨v,H1,I1,r1,i,ev,hd,hl,q⟩=>?_)
  subst ev
  obtain ⟨t,rfl⟩:=r1
  refine wpAny_formatField_int hd ⟨_,_,rfl,?_,?_,?_⟩
  ·rw [tL];exact hl
  ·rw [tL];exact hl
  ·rw [tL];exact ⟨.str (z++(toString i:Str)),H1,(I1.tok _).tok _,⟨_,rfl⟩,q⟩
def QH (C:Addr) (sp:Sp) (tv:TX):TX:=λU H Q E=>tv U H (λv H1=>∀x dx,H1 x=none->H1 dx=none->dx≠x->sp [.ref x,v] (upd (upd H1 dx (.own x)) x (.ins C dx [])) (λw H2=>w=.non/\Q (.ref x) H2) Mi.XN) E
def QI {C f:Addr}{k:Nat}{fd:FuncData}{ps:Ad}{sp:Sp}{x:Str}{p pos:Pos}(M:Mk X.K C f) (F:br X.prog X.w X.K X.mg X.base (cj X.prog X.w) k f fd ps sp) (hr:aY (k+1) X.A) (hg:Gl X x) (hm:X.mg x=some (.ref C)) (hb:Binds X.K fd ps []) (hv:PX X e tv)
  (cL:(x==("__debug__" : Str))=false:=by decide) (he:starEach [e] X.env=(false,eval e X.env)::starEach [] X.env:=by rfl) (bu:(backTo pos (starEach [] X.env)).any (·.1)=false:=by rfl):PX X (.Call (.Name x p) [e] [] pos) (QH C sp tv):=by
 intro pins s U H Q E I h
 refine wpAny_Call_Name_kw (oR I hg hm ?_ cL)
 refine PySem.W.callWith_K (h₀:=X.base) I.ok.mod.kin M.kp ?_ he bu
 rw [he]
 show wpAny _ _ (spliced ((false,eval e X.env)::backTo pos (starEach [] X.env))) _ _ s
 refine Calls.spliced_cons (yP (hv pins s U H _ E I h) (λu s1 ⟨v,H1,I1,r1,q1⟩=>?_) λ_ _ z=>z)
 refine Calls.spliced_nil ⟨I1.kIn,?_⟩
 exact yP (BQ (X:=X.nox) M F hr hb .nil (nG Mi.wX) (I1.wish _) (.cons r1 .nil) q1) (λ_ _ ⟨y,H2,I2,r2,q2⟩=>⟨y,H2,I2.unwish,r2,q2⟩) λ_ _ z=>z.elim
def QJ (C:Addr) (j:Nat) (td ty:TE) (tv:TX) (tsu:TS):TS:=λD U H=>tv U H (λv H1=>td U H1 λx H2=>ty U H2 λy H3=>∃a H4,x=.ref a/\dU H3 a y v H4/\D.nx U H4)
 (λc d H1=>c=.ref C/\∀a,H1 a=none->tsu { nx:=λai H'=>D.nx (ai.set j none) H',rt:=D.rt } (U.set j (some (.ref a))) (upd H1 a (gG C d a)))
def QK {C:Addr}{j:Nat}{n cls:Str}{o i value:Expr}{tsu:TS}{b0:Stmt}{dR:List Stmt}{ap cp hp pos pos':Pos}(hu:X.A.units+1<cLine) (hN:X.N.Nodup) (hj:X.N[j]?=some n) (hn:X.env.scope.names.lookup n=some .local)
  (ho:PE X.nox o td) (hi:PE X.nox i ty) (hv:PX X value tv) (hg:Gl X cls) (hm:X.mg cls=some (.ref C)) (hC:kA X.K C) (xZ:∀a,cy (X.caught a) (b0::dR) tsu) (bH:X.stack=X.env::X.outer) (d0:X.env.frame=some X.env.locals)
  (hs:swapsWith value (some (.Subscript o i pos')) ap.line X.env=pure false:=by rfl) (cL:(cls==("__debug__" : Str))=false:=by decide) :
  PS X (.Try [.Assign [.Subscript o i pos'] value ap] [.ExceptHandler (some (.Name cls cp)) (some n) (b0::dR) hp] [] [] pos) (QJ C j td ty tv tsu):=by
 intro pins s U H D I h
 rw [arm_exec_Try]
 refine zt (wpAny_standAt (wpAny_tryStmt_except (wpAny_execs_cons (wpAny_Assign_Subscript (yP (hv pins s U H _ _ I h) (λr s1 ⟨v,H1,I1,rv,q1⟩=>?_) (λu s1 ⟨a,C',d,H1,eu,I1,QL,ec,q⟩=>?_)) hs))))
 ·refine yP (ho pins s1 U H1 _ (I1.wish _) q1) (λu s2 ⟨x,H2,I2,rx,q2⟩=>?_) (λ_ _ z=>z.elim)
  refine yP (hi pins s2 U H2 _ I2 q2) (λiv s3 ⟨y,H3,I3,ry,a,H4,ex,g,q3⟩=>?_) (λ_ _ z=>z.elim)
  subst ex
  obtain rfl:u=Value.ref a:=rx
  exact vI hu I3.unwish g ry rv λs4 I4=>wpAny_execs_nil (wpAny_execs_nil ⟨U,H4,I4,q3⟩)
 subst eu
 cases ec
 refine CN I1 I.ok.frames bH d0 QL λs2 T I2 x2 ne vO oa oT=>vK I2 x2 ne vO oa oT λs3 I3 x3 pI=>?_
 refine wpAny_handleBy_cons (codeAny_handlers_test ?_) (by intro q;cases q)
 refine oR (X:=X.caught a) (Inv.caught I3 a) hg hm ?_ cL
 obtain ⟨⟨nm,q',N,bs,bm,dj,sn,sub,ab,col,dd,k0,k1,k2,k3,k5,hl,ht,_⟩,_⟩:=hC
 have sZ:=I3.kIn _ _ hl
 have dF:bm.contains (.type "BaseException")=true:=(tail_of_in I3.kIn ht).hasType (by decide)
 obtain ⟨oe,vs,he,ke,_⟩:=id x3
 refine wpAny_excMatches_sub_self (h:=s3.heap) (g:=s3.gens) (d:=s3.drawn) (t:=s3.toks) (os:=s3.os) sZ he ke dF ?_
 refine codeAny_handlers_suite_as (vK I3 x3 ne pI oa oT λs4 I4 x4 YL=>?_)
 have I5:=Inv.catch I4 oa x4
 refine oQ I5 hN hj (.inl hn) (v:=.ref a) rfl (λs5 I6=>?_) (.inr hn)
 refine yP (xZ a pins s5 _ _ _ (Inv.caught I6 a) (q a oa.1)) (λf s6 z=>?_) λ_ _ z=>z.elim
 cases f with
 | next =>
  obtain ⟨ai,H',I7,q7⟩:=z
  exact CQ (Inv.uncaught I.ok I7) hN hj hn λs7 I8=>⟨_,H',I8,q7⟩
 | brk=>obtain ⟨_,_,_,z⟩:=z;exact z.elim
 | cont=>obtain ⟨_,_,_,z⟩:=z;exact z.elim
 | ret u =>
  obtain ⟨v,ai,H',I7,r7,q7⟩:=z
  exact CQ (Inv.uncaught I.ok I7) hN hj hn λs7 I8=>⟨v,_,H',I8,r7,q7⟩
end
end L2
namespace Mi
open PySem L2 PySem.W PySem.Spec
section
variable {X:Cx}{Er:XK}{e o i:Expr}{pos pos' p:Pos}{f fo fi fv:Ai}{k:Nat}{m:Al}
def x5 (z:Str):PV->Mo PV
 | .int i,st=>if i.natAbs.log2<1920/\(z++(toString i:Str)).length<=1000 then .ok (.str (z++(toString i:Str))) st else .stuck
 | _,_=>.stuck
def zrB {z:Str}{ck}{cp fp:Pos}(he:ME X Er e f) (hz:z.length<=1000:=by decide):ME X Er (.JoinedStr [.Constant (.str z) ck cp,.FormattedValue e (-1) none fp] pos) (yg (x5 z) f) :=
 PE.weak (QG he (y4 hz (by decide))) λU H Q ⟨env,st,ρ,re,rs,h⟩=>⟨env,st,ρ,re,rs,h.then λag H1 x ae e1 s1 h1 v rv=>by
  cases x with
  | int i =>
   obtain ⟨⟨h2,h3⟩,h1⟩:=Out.ifp h1
   exact ⟨i,rv,h2,y4 h3 (by decide),h1.now s1 _ rfl⟩
  | _=>exact h1.elim⟩
def QM {es:List Expr} {fs:Ah} {cn:Str} (C:g9 X.prog X.w X.K X.mg X.base cn k m) (hr:aY (k+1) X.A) (ht:j7 X Er) (ha:MA X Er (e::es) fs) (hg:Gl X cn:=by rfl) (cL:(cn==("__debug__" : Str))=false:=by decide)
  (he:starEach (e::es) X.env=(false,eval e X.env)::starEach es X.env:=by rfl) (bu:(backTo pos (starEach es X.env)).any (·.1)=false:=by rfl):ME X Er (.Call (.Name cn p) (e::es) [] pos) (zq (bI cn m) fs):=fN C hr ht ha hg cL he bu
def gO (cn:Str) (m:Al) (fv:Ai):Ai:=λenv st=>(fv env st).bind λy ae=>bG (bI cn m [y] ae)
def QN {cn:Str} (C:g9 X.prog X.w X.K X.mg X.base cn k m) (hr:aY (k+1) X.A) (hv:MX X e fv) (hg:Gl X cn:=by rfl) (cL:(cn==("__debug__" : Str))=false:=by decide)
  (he:starEach [e] X.env=(false,eval e X.env)::starEach [] X.env:=by rfl) (bu:(backTo pos (starEach [] X.env)).any (·.1)=false:=by rfl):MX X (.Call (.Name cn p) [e] [] pos) (gO cn m fv):=by
 obtain ⟨C,f,fd,ps,hm,M,hb,F⟩:=C
 exact PX.weak (QI M F hr hg hm hb hv cL he bu) λU H Q E ⟨env,st,ρ,re,rs,h⟩=>⟨env,st,ρ,re,rs,h.then λag H1 y ae e1 s1 h1 v rv x dx hx nP ne=>by
  refine Dh (f:=f) (ys:=[y]) (vs:=[v]) hm s1 ⟨v,[],rfl,rv,rfl⟩ ?_ x dx hx nP ne
  cases hr:bI cn m [y] ae with
  | ok z aA=>rw [hr] at h1;exact h1
  | err=>rw [hr] at h1;exact h1.elim
  | stuck=>rw [hr] at h1;exact h1.elim⟩
def n5 (j:Nat) (cn:Str) (fo fi fv:Ai) (dR:Aj):Aj:=λenv st=>match fv env st with
 | .ok x ae=>(bG (fo env ae)).bind λo aA=>(bG (fi env aA)).bind λz a0=>(jG z x o a0).bind λ_ cY=>.ok (.nx env) cY
 | .err c ks xs ae=>if c=cn/\ks≠[] then (bG (dR (env.set j (some (.exo c ks xs))) ae)).bind (xy j) else .stuck
 | .stuck=>.stuck
def QO (j:Nat) {n cn:Str}{value:Expr}{gs:Aj}{b0:Stmt}{dR:List Stmt}{ap cp hp:Pos}(hu:X.A.units+200<cLine) (hC:∃C,X.mg cn=some (.ref C)/\kA X.K C) (ho:ME X.nox E0 o fo) (hi:ME X.nox E0 i fi) (hv:MX X value fv) (xZ:∀a,fB (X.caught a) E0 (b0::dR) gs) (hN:X.N.Nodup)
  (bH:X.stack=X.env::X.outer:=by rfl) (d0:X.env.frame=some X.env.locals:=by rfl) (hj:X.N[j]?=some n:=by rfl) (hn:X.env.scope.names.lookup n=some .local:=by rfl) (hg:Gl X cn:=by rfl)
  (hs:swapsWith value (some (.Subscript o i pos')) ap.line X.env=pure false:=by rfl) (cL:(cn==("__debug__" : Str))=false:=by decide) :
  MS X Er (.Try [.Assign [.Subscript o i pos'] value ap] [.ExceptHandler (some (.Name cn cp)) (some n) (b0::dR) hp] [] [] pos) (n5 j cn fo fi fv gs):=by
 obtain ⟨C,hm,hC⟩:=hC
 exact PS.weak (QK (tsu:=sM X.K X.mg E0 gs) (by omega) hN hj hn ho hi hv hg hm hC xZ bH d0 hs cL) λD U H ⟨env,st,ρ,re,rs,h⟩=>by
  refine ⟨env,st,ρ,re,rs,?_⟩
  unfold n5 at h
  cases hr:fv env st with
  | ok x ae =>
   rw [hr] at h
   intro ag H1 e1 s1 v rv
   refine ⟨env,ae,ag,re.ext e1,s1,jC (Out.ext h e1) λaq H2 y aA e2 s2 h2 w rw=>⟨env,aA,aq,(re.ext e1).ext e2,s2,jC h2 λak H3 zz a0 e3 s3 h3 u ru=>?_⟩⟩
   cases y with
   | ref n =>
    cases zz with
    | str z =>
     cases hn:a0[n]? with
     | none=>simp only [jG,ja,hn] at h3;exact h3.elim
     | some so =>
      cases so with
      | dic ks xs =>
       simp only [jG,ja,hn] at h3
       by_cases hc:ks.length<lim
       ·rw [zx hc] at h3
        obtain ⟨a,vs,e4,ha,k1,k2,k3⟩:=R.refD s3 (R.ext e3 _ rw) hn
        subst e4
        cases ru
        obtain ⟨ws,q1,q2,q3⟩:=xv (z:=z) (R.ext e3 x (R.ext e2 x rv)) k3 k2
        have hlen:(kz ks vs).length<sizeLine:=by
         have:(kz ks vs).length=ks.length:=by simp [kz,k3]
         rw [this,sizeLine_eq]
         have:ks.length<1000000:=hc
         omega
        have g:=dU.k (k:=Sum.inr z) (v:=v) k1 hlen
        have ew:Ext ak H3 ak (upd H3 a (.dK (L2.putK (kz ks vs) (Sum.inr z) v))):=Ext.write k1 rfl
        refine ⟨a,_,rfl,g,h3 ak _ ew (s3.write ha ew ⟨ws,by rw [y0,q1],Rs.ext ew _ q2,q3⟩) U ((((re.ext e1).ext e2).ext e3).ext ew)⟩
       ·rw [zH hc] at h3;exact h3.elim
      | _=>simp only [jG,ja,hn] at h3;exact h3.elim
    | _=>exact h3.elim
   | _=>exact h3.elim
  | stuck=>rw [hr] at h;exact h.elim
  | err c ks xs ae =>
   simp only [hr] at h
   obtain ⟨⟨QP,hk⟩,h2⟩:=Out.ifp h
   subst QP
   intro ag H1 Cv d e1 s1 xr
   obtain ⟨C',rfl,hm',hd⟩:=xr
   rw [hm] at hm'
   cases hm'
   refine ⟨rfl,λq hq=>?_⟩
   rcases hd with ⟨xJ,_⟩|⟨dd,vs,rfl,QQ,hR,hl⟩
   ·exact absurd xJ hk
   ·have eq:Ext ag H1 ag (upd H1 q (gG C (some dd) q)):=Ext.new hq
    refine ⟨env.set j (some (.exo c ks xs)),ae,ag,((re.ext e1).ext eq).set j ⟨q,C,dd,vs,rfl,hm,y0,eq.imm _ _ QQ rfl,Rs.ext eq xs hR,hl⟩,s1.new hq,jC (Out.ext h2 (e1.trans eq)) λaq H2 fl aA e2 s2 h2=>?_⟩
    cases fl with
    | nx e=>exact λaG r2=>Out.fl (D:=D) (fl:=.nx (e.set j none)) (E:=Er) h2 s2 _ (r2.unset j)
    | rt y=>exact λv2 r2=>Out.fl (D:=D) (fl:=.rt y) (E:=Er) h2 s2 _ r2
    | _=>exact h2.elim
end
section
variable {X:Cx}{Er:XK}{pos:Pos}{fs:Ah}
def QR {elt e c:Expr} {x y:Str} {kt:Nat} {px py tp p ip:Pos} {scope:Scope} {ft:Ak} {fe:Ai} {M:Ad} (hc:X.calm=true) (S:cS X.env.scope scope [x,y]) (eN:Hid scope M X.N) (cv:((".0" : Str)::([x,y]++M)).Nodup)
  (hm:X.mg "enumerate" = none) (ha:MA X Er [e] fs) (iD:∀cl C af ah fp,MT (dz X M scope cl [x,y] C af ah fp (λ_ _=>False)) XN c ft) (he:∀cl C af ah fp,ME (dz X M scope cl [x,y] C af ah fp (λ_ _=>False)) XN elt fe)
  (hx:scope.names.lookup x=some .local:=by rfl) (hy:scope.names.lookup y=some .local:=by rfl) (p6:Gl X "enumerate" := by rfl) (bH:starEach [e] X.env=[(false,eval e X.env)]:=by rfl)
  (hs:∀v,foldedSetIterable (.Call (.Name "enumerate" p) [e] [] ip) X.env v=pure v:=by intro _;rfl) :
  ME X Er (.ListComp elt [⟨.Tuple [.Name x px,.Name y py] kt tp,.Call (.Name "enumerate" p) [e] [] ip,[c],0⟩] scope pos) (sU fs ft fe):=by
 have hN:([x,y]++M).Nodup:=(jI.mp cv).2
 have f7:∀cl C af ah fp E,PG (dz X M scope cl [x,y] C af ah fp E) (.Tuple [.Name x px,.Name y py] kt tp) (rz X.K 2 (lG (jX 0) (lG (jX 1) ro))):=λcl C af ah fp E=>rA (n:=2) hc
  (kf (wq (X:=dz X M scope cl [x,y] C af ah fp E) (i:=0) hN rfl (.inl (jx hx)) (.inr (jx hx)))
  (kf (wq (X:=dz X M scope cl [x,y] C af ah fp E) (i:=1) hN rfl (.inl (jx hy)) (.inr (jx hy))) rq))
 exact PE.weak (vn (te:=tM X.K X.mg XN fe) (tt:=l8 X.K X.mg XN ft) hc S eN cv (DR p6 hm ha bH) f7 (λcl C af ah fp=>vk (iD cl C af ah fp)) (λcl C af ah fp=>he cl C af ah fp) hs) λU H Q ⟨env,st,ρ,re,rs,h⟩=>⟨env,st,ρ,re,rs,h.then λar H0 vs df e0 s0 h0 us ru=>by
  obtain ⟨n,nM,rfl,xB,h0⟩:=xA h0
  obtain ⟨v,rfl,rv⟩:=ru.one
  obtain ⟨a,rfl,ha⟩:=rv
  obtain ⟨p7,xC,xD⟩:=s0.addr xB ha
  refine ⟨a,rfl,⟨_,a6.of xC⟩,?_⟩
  refine ⟨λi m ys H=>m+i=lim+1/\ys.length<=i/\∃ps st ρ,Rs X.K X.mg ρ H ps ys/\a7 X.K X.mg ρ H st/\Ext ar H0 ρ H/\ρ[n]?=some a/\Out X.K X.mg ρ H (fD ft fe env n m i ps st) (gV X.K X.mg Q) Er,⟨lim+1,rfl,jj _,[],df,ar,rfl,s0,Ext.refl,ha,h0⟩,?_⟩
  rintro i m ys H ⟨hm,hy,ps,st,ρ,cw,rs,ex,ha,h⟩
  cases m with
  | zero=>exact h.elim
  | succ m =>
   obtain ⟨xs,hn,h⟩:=jw h
   obtain ⟨vs,hH,hR⟩:=rs.addr hn ha
   cases hx:xs[i]? with
   | none =>
    simp only [hx] at h
    have:vs.length<=i:=by rw [<-hR.len];exact lD.mp hx
    exact .inl ⟨⟨vs,a6.of hH,this⟩,yR (by omega),λl hl=>Out.newList h rs cw hl⟩
   | some x =>
    simp only [hx] at h
    obtain ⟨v,hv,rv⟩:=hR.get hx
    refine .inr ⟨⟨vs,v,a6.of hH,hv⟩,yR (by omega),λv' H' y=>?_⟩
    obtain ⟨T,x',hT,rfl,rfl,y⟩:=y
    have e2:=y vs (a6.of hH)
    rw [hv] at e2
    cases e2
    have bD:Ext ρ H ρ (upd H T (.tup [.int i,v])):=Ext.new hT
    refine ⟨T,[.int i,v],rfl,.inl (.inl y0),rfl,.int i,[v],rfl,v,[],rfl,rfl,[some (.int i),some v],rfl,rfl,?_⟩
    have gg:a8 X.K X.mg ρ (upd H T (.tup [.int i,v])) (some (.int i)::some x::env) (some (.int i)::some v::U):=(((re.ext (e0.trans ex)).ext bD).cons (R.ext bD x rv)).cons rfl
    refine ⟨_,st,ρ,gg,rs.new hT,jC (Out.ext h bD) λak H3 b a0 e3 s3 h3=>?_⟩
    cases b with
    | true =>
     refine ⟨_,a0,ak,gg.ext e3,s3,jC h3 λaD H4 y cY e4 s4 h4 v4 r4=>⟨m,jK m,by omega,by simp;omega,ps++[y],cY,aD,Rs.snoc r4 (Rs.ext ((bD.trans e3).trans e4) ps cw),s4,((ex.trans bD).trans e3).trans e4,e4.get (e3.get ha),h4⟩⟩
    | false=>exact ⟨m,jK m,by omega,by omega,ps,a0,ak,Rs.ext (bD.trans e3) ps cw,s3,(ex.trans bD).trans e3,e3.get ha,h3⟩⟩
end
end Mi
abbrev Mi.Au (n:Nat):Option Mi.PV:=some (.ref n)
abbrev Mi.Av (n:Nat):Option Mi.PV:=some (.int n)
abbrev Mi.Ar (i:Int):=Mi.mC (.int i)
abbrev Mi.As (z:PySem.Str):=Mi.mC (.str z)
namespace FK62
open PySem L2 PySem.W Mi
noncomputable def top (i:Nat):Stmt:=PySem.Challenge.pw_foreknown_k62_straight_lines_made.main.body.getD i (.Pass ⟨0,0,0,0⟩)
noncomputable abbrev EE:Stmt:=top 79
noncomputable abbrev EF:Stmt:=top 80
noncomputable abbrev EG:Stmt:=top 81
noncomputable abbrev EH:Stmt:=top 82
noncomputable abbrev EI:Stmt:=top 85
noncomputable abbrev EO:Stmt:=top 84
noncomputable abbrev ER:Stmt:=top 83
noncomputable abbrev EU:Stmt:=top 15
noncomputable abbrev EV:Stmt:=top 23
noncomputable abbrev EW:Stmt:=top 17
noncomputable abbrev zfi:Stmt:=top 21
noncomputable abbrev EX:Stmt:=top 11
noncomputable abbrev EY:Stmt:=top 18
noncomputable abbrev zfj:Stmt:=top 19
noncomputable abbrev EZ:Stmt:=top 10
noncomputable abbrev E9:Stmt:=top 13
noncomputable abbrev E_:Stmt:=top 28
noncomputable abbrev Fb:Stmt:=top 12
noncomputable abbrev Fc:Stmt:=top 30
noncomputable abbrev zfk:Stmt:=top 31
noncomputable abbrev Fd:Stmt:=top 75
noncomputable abbrev zfl:Stmt:=inClass (top 73) 0
noncomputable abbrev Fe:Stmt:=top 6
noncomputable abbrev zfm:Stmt:=top 71
noncomputable abbrev zfn:Stmt:=inClass (top 73) 1
noncomputable abbrev zfo:Stmt:=top 22
noncomputable abbrev zfp:Stmt:=inClass (top 67) 0
noncomputable abbrev zfq:Stmt:=inClass (top 68) 0
noncomputable abbrev zfr:Stmt:=inClass (top 74) 0
noncomputable abbrev Ff:Stmt:=top 69
noncomputable abbrev zdD:Stmt:=inClass (top 74) 1
noncomputable abbrev zfs:Stmt:=inClass (top 67) 2
noncomputable abbrev zft:Stmt:=inClass (top 68) 2
noncomputable abbrev zdE:Stmt:=inClass (top 74) 4
noncomputable abbrev Fg:Stmt:=top 61
noncomputable abbrev Fh:Stmt:=top 4
noncomputable abbrev Fi:Stmt:=top 39
noncomputable abbrev Fj:Stmt:=top 41
noncomputable abbrev Fn:Stmt:=top 42
noncomputable abbrev Fo:Stmt:=top 40
noncomputable abbrev Fp:Stmt:=top 46
noncomputable abbrev Fq:Stmt:=top 47
noncomputable abbrev Ft:Stmt:=top 5
noncomputable abbrev Fu:Stmt:=top 7
noncomputable abbrev Fv:Stmt:=top 8
noncomputable abbrev zfu:Stmt:=inClass (top 63) 1
noncomputable abbrev zfv:Stmt:=inClass (top 63) 0
noncomputable abbrev Fw:Stmt:=top 64
noncomputable abbrev zdF:Stmt:=inClass (top 74) 2
noncomputable abbrev zfw:Stmt:=inClass (top 74) 8
noncomputable abbrev zfx:Stmt:=inClass (top 74) 7
noncomputable abbrev Fx:Stmt:=top 76
noncomputable abbrev Fy:Stmt:=top 77
noncomputable abbrev zfy:Stmt:=top 20
noncomputable abbrev zfz:Stmt:=inClass (top 25) 0
noncomputable abbrev zfA:Stmt:=inClass (top 25) 1
noncomputable abbrev zfB:Stmt:=inClass (top 25) 3
noncomputable abbrev zdG:Stmt:=top 14
noncomputable abbrev zfC:Stmt:=top 24
noncomputable abbrev Fz:Stmt:=top 26
noncomputable abbrev zfD:Stmt:=top 86
noncomputable abbrev zbF:Stmt:=top 87
noncomputable abbrev zjk:Stmt:=inClass (top 34) 0
noncomputable def insOf (c:Str):Bool:=decide (c = "Holding")||decide (c = "KeyRing")||decide (c = "Known")||decide (c = "Later")||decide (c = "Making")||decide (c = "Op")
noncomputable def excOf (c:Str):Bool:=decide (c = "Fault")
noncomputable def isT:IsT where
 isx c:=false
 sub c B :=  none
 subT c n :=  none
 tyC _ _:=none
noncomputable def jU:Ad:=["add", "sub", "less", "same"]
noncomputable def jV:An:=[.tup [.tup [.str "number", .str "number"],.fn "tell_add"],.tup [.tup [.str "number", .str "number"],.fn "tell_sub"],.tup [.tup [.str "number", .str "number"],.fn "tell_less"],.tup [.tup [.str "any", .str "any"],.fn "tell_same"]]
noncomputable abbrev zfE:Bool:=false
structure Txt (w:World) (K:Frag) (mg:Ab):Prop where
 f__law_cell_at:FnF K mg "_law_cell_at" EE ["_law_script", "_law_k"]
 f__law_name:FnF K mg "_law_name" EF ["_law_script", "_law_k"]
 f__law_number:FnF K mg "_law_number" EG ["_law_cell"]
 f__law_atom:FnF K mg "_law_atom" EH ["_law_cell", "_law_names"]
 f__law_steps:FnF K mg "_law_steps" EI ["_law_script", "_law_names"]
 f__law_left:FnF K mg "_law_left" EO ["_law_atom_here", "_law_things"]
 f__law_told:FnF K mg "_law_told" ER ["_law_op", "_law_one", "_law_other"]
 f_functions_by_name:FnF K mg "functions_by_name" EU ["program"]
 f_marked:FnF K mg "marked" EV ["names"]
 f_is_later_at:FnF K mg "is_later_at" EW ["bits", "place"]
 f_later_params:FnF K mg "later_params" zfi ["function", "bits"]
 f_lines_of:FnF K mg "lines_of" EX ["block"]
 f_bits_of:FnF K mg "bits_of" EY ["truths"]
 f_need:FnF K mg "need" zfj ["atoms", "later"]
 f_is_step:FnF K mg "is_step" EZ ["line"]
 f_atoms_of:FnF K mg "atoms_of" E9 ["line"]
 f_broken_name:FnF K mg "broken_name" E_ ["line", "later"]
 f_aim_of:FnF K mg "aim_of" Fb ["line"]
 f_broken_form:FnF K mg "broken_form" Fc ["function", "form", "pairs"]
 f_broken:FnF K mg "broken" zfk ["program", "parting"]
 f_forms_by_pair:FnF K mg "forms_by_pair" Fd ["parting"]
 n_KeyRing:NwF K mg "KeyRing" "KeyRing.__init__" zfl ["self", "limit"]
 f_kind_of:FnF K mg "kind_of" Fe ["value"]
 f_show_value:FnF K mg "show_value" zfm ["value"]
 m_KeyRing_name_for:MtF K mg "KeyRing" "name_for" "KeyRing.name_for" zfn ["self", "key"]
 f_known_params:FnF K mg "known_params" zfo ["function", "bits"]
 n_Known:NwF K mg "Known" "Known.__init__" zfp ["self", "value"]
 n_Later:NwF K mg "Later" "Later.__init__" zfq ["self", "name"]
 n_Making:NwF K mg "Making" "Making.__init__" zfr ["self", "ring", "function", "form", "values"]
 f_thing_of:FnF K mg "thing_of" Ff ["atom", "things"]
 m_Making_things_at:MtF K mg "Making" "things_at" "Making.things_at" zdD ["self", "atoms"]
 m_Known_atom:MtF K mg "Known" "atom" "Known.atom" zfs ["self"]
 m_Later_atom:MtF K mg "Later" "atom" "Later.atom" zft ["self"]
 m_Making_left_let:MtF K mg "Making" "left_let" "Making.left_let" zdE ["self", "step"]
 f_check_kinds:FnF K mg "check_kinds" Fg ["kinds", "values"]
 f_in_bounds:FnF K mg "in_bounds" Fh ["number"]
 f_within_bounds:FnF K mg "within_bounds" Fi ["number"]
 f_tell_add:FnF K mg "tell_add" Fj ["values"]
 f_tell_sub:FnF K mg "tell_sub" Fn ["values"]
 f_number_of:FnF K mg "number_of" Fo ["truth"]
 f_tell_less:FnF K mg "tell_less" Fp ["values"]
 f_tell_same:FnF K mg "tell_same" Fq ["values"]
 f_things_within:FnF K mg "things_within" Ft ["thing"]
 f_all_within:FnF K mg "all_within" Fu ["thing"]
 f_parts:FnF K mg "parts" Fv ["value"]
 m_Op_answer:MtF K mg "Op" "answer" "Op.answer" zfu ["self", "values"]
 n_Op:NwF K mg "Op" "Op.__init__" zfv ["self", "word"]
 f_op_of:FnF K mg "op_of" Fw ["word"]
 m_Making_answer_ahead:MtF K mg "Making" "answer_ahead" "Making.answer_ahead" zdF ["self", "step"]
 m_Making_made_end:MtF K mg "Making" "made_end" "Making.made_end" zfw ["self", "end", "place"]
 m_Making_made_block:MtF K mg "Making" "made_block" "Making.made_block" zfx ["self", "block", "place"]
 f_made_function:FnF K mg "made_function" Fx ["ring", "key", "function", "form"]
 f_make:FnF K mg "make" Fy ["program", "parting", "known", "limit"]
 f_held_bits:FnF K mg "held_bits" zfy ["function", "held"]
 n_Holding:NwF K mg "Holding" "Holding.__init__" zfz ["self", "program", "held"]
 m_Holding_makes_later:MtF K mg "Holding" "makes_later" "Holding.makes_later" zfA ["self", "name", "step", "later"]
 m_Holding_best_form:MtF K mg "Holding" "best_form" "Holding.best_form" zfB ["self", "function", "bits"]
 f_aims_of:FnF K mg "aims_of" zdG ["block"]
 f_aimed_pairs:FnF K mg "aimed_pairs" zfC ["function", "goals"]
 f_best:FnF K mg "best" Fz ["program", "bits", "held"]
 f__law_plain:FnF K mg "_law_plain" zfD ["_law_made"]
 f_law:FnF K mg "law" zbF ["_law_script"]
 x_Fault:XnF K mg "Fault" "word" "Fault.__init__" zjk
 b_all:mg "all" = none
 b_bool:mg "bool" = none
 b_dict:mg "dict" = none
 b_enumerate:mg "enumerate" = none
 b_int:mg "int" = none
 b_isinstance:mg "isinstance" = none
 b_len:mg "len" = none
 b_list:mg "list" = none
 b_range:mg "range" = none
 b_str:mg "str" = none
 b_tuple:mg "tuple" = none
 b_zip:mg "zip" = none
 c_MOST_PARTS:∃t,mg "MOST_PARTS" = some (.int 60 t)
 c_NUMBER_BOUND:∃t,mg "NUMBER_BOUND" = some (.int 1000000000000000000 t)
 d_bits_by_name:FldF K mg "bits_by_name" insOf excOf
 d_goals:FldF K mg "goals" insOf excOf
 d_later:FldF K mg "later" insOf excOf
 d_limit:FldF K mg "limit" insOf excOf
 d_many:FldF K mg "many" insOf excOf
 d_met:FldF K mg "met" insOf excOf
 d_name:FldF K mg "name" insOf excOf
 d_names:FldF K mg "names" insOf excOf
 d_pairs:FldF K mg "pairs" insOf excOf
 d_ring:FldF K mg "ring" insOf excOf
 d_things:FldF K mg "things" insOf excOf
 d_value:FldF K mg "value" insOf excOf
 d_word:FldF K mg "word" insOf excOf
 is:IsF K mg isT
 kd_OPS:∀X:Cx,X.K=K->X.mg=mg->X.w=w->KdF X "OPS" jU jV zfE
section
variable {P:Program}{w:World}{K:Frag}{mg:Ab}{base:Heap}
set_option hygiene false in
local macro_rules
|`(tactic|exact $s:str)=>do
 let ts<-(s.getString.splitOn " ").toArray.mapM λ(w:String)=>do
  let p:=(w.drop 1).toString
  let i:Lean.TSyntax `term:=if p.all Char.isDigit then ⟨(Lean.Syntax.mkNumLit p).raw⟩ else ⟨(Lean.mkIdent p.toName).raw⟩
  match w.toList.headD 'a' with
  |'a'=>`(tactic|refine $i ?_ ?_)
  |'b'=>`(tactic|exact (zg $i))
  |'c'=>`(tactic|exact $i)
  |'d'=>`(tactic|refine $i ?_)
  |'e'=>`(tactic|refine zO ($i T) (hr.mono (by decide)) zK ?_)
  |'f'=>`(tactic|refine zD ?_ ?_ ?_ ?_)
  |'g'=>`(tactic|exact λ_ _=>rfl)
  |'h'=>`(tactic|exact (zE (zo hr)))
  |'i'=>`(tactic|refine zV $i ?_ ?_)
  |'j'=>`(tactic|refine yi ($i (zo hr)) ?_ ?_)
  |'k'=>`(tactic|refine yj ?_ ?_ ?_)
  |'l'=>`(tactic|exact (yU (zo hr) (zE (zo hr))))
  |'m'=>`(tactic|refine yq $i ?_ ?_)
  |'n'=>`(tactic|refine zj ?_ ?_)
  |'o'=>`(tactic|refine wS (λc m h=>$i T h) ?_ (hr.mono (by decide)) zK ?_)
  |'p'=>`(tactic|refine je jB T.b_tuple ji ?_)
  |'q'=>`(tactic|refine wa (jv rfl rfl) rfl ?_ ?_ ?_)
  |'r'=>`(tactic|exact zp)
  |'s'=>`(tactic|refine yT jP T.b_len jO ?_)
  |'t'=>`(tactic|refine yT (wT T.is) T.b_isinstance wU ?_)
  |'u'=>`(tactic|exact zw)
  |'v'=>`(tactic|refine QM ($i T) (hr.mono (by decide)) zK ?_)
  |'w'=>`(tactic|refine y7 $i ?_)
  |'x'=>`(tactic|intro _ _ _ _ _)
  |'y'=>`(tactic|refine zy ?_ ?_)
  |'z'=>`(tactic|refine zB ?_)
  |'A'=>`(tactic|refine QD (N:=["function", "bits"]) rfl (by exact ⟨rfl,by decide +kernel,by decide +kernel,by show ∀y:Str×NameKind,y∈_->y.2=NameKind.free->List.lookup y.1 (zF $i).names=some NameKind.cell;decide +kernel⟩) rfl (by decide +kernel) T.b_enumerate ?_ ?_ ?_)
  |'B'=>`(tactic|refine $i ?_ ?_ ?_ ?_ ?_)
  |'C'=>`(tactic|refine zO ($i T) (hr.mono (by decide)) wX ?_)
  |'D'=>`(tactic|refine yi $i ?_ ?_)
  |'E'=>`(tactic|refine j9 $i ?_ ?_)
  |'F'=>`(tactic|refine wB ($i (zo hr)) ?_ ?_)
  |'G'=>`(tactic|exact (zg 0))
  |'H'=>`(tactic|refine zS ?_)
  |'I'=>`(tactic|exact (zo hr))
  |'J'=>`(tactic|refine $i (T.kd_OPS _ rfl rfl rfl) ?_)
  |'K'=>`(tactic|refine OV (jv rfl rfl) rfl T.b_enumerate ?_ ?_ ?_)
  |'L'=>`(tactic|exact yf)
  |'M'=>`(tactic|exact yr)
  |'N'=>`(tactic|exact (zg 1))
  |'O'=>`(tactic|exact (wR T.b_tuple ji))
  |'P'=>`(tactic|refine yA ?_)
  |'Q'=>`(tactic|refine NQ (jv rfl rfl) ?_ ?_)
  |'R'=>`(tactic|exact yI)
  |'S'=>`(tactic|refine Nt (λc m h=>QS T h) ?_ (hr.mono (by decide)) $i)
  |'T'=>`(tactic|exact jH.nd)
  |'U'=>`(tactic|refine $i ?_ ?_ ?_)
  |'V'=>`(tactic|refine wB (Qk (zo hr) (za4 (zo hr))) ?_ ?_)
  |'W'=>`(tactic|refine NP T.b_zip ?_)
  |'X'=>`(tactic|refine zO FA (hr.mono (by omega)) wX ?_)
  |'Y'=>`(tactic|refine y7 T.d_things ?_)
  |'Z'=>`(tactic|exact (zg 2))
  |'0'=>`(tactic|refine MQ M6 ?_)
  |'2'=>`(tactic|exact ⟨rfl,by decide +kernel,by decide +kernel,rfl,by show ∀y:Str×NameKind,y∈_->y.2=NameKind.free->List.lookup y.1 (zF $i).names=some NameKind.cell;decide +kernel⟩)
  |'3'=>`(tactic|exact ⟨rfl,by decide +kernel,by decide +kernel,by show ∀y:Str×NameKind,y∈_->y.2=NameKind.free->List.lookup y.1 (zF $i).names=some NameKind.cell;decide +kernel⟩)
  |'5'=>`(tactic|first|exact Or.inl rfl|exact Or.inr rfl)
  |'6'=>`(tactic|first|exact .inl rfl|exact .inr rfl|assumption)
  |'1'=>`(tactic|exact ⟨rfl,rfl,rfl,by decide +kernel,rfl,by decide +kernel,by decide +kernel⟩)
  |_=>Lean.Macro.throwUnsupported
 `(tactic|($[$ts]*))
theorem QT:au ["_law_script", "_law_k"] ["_law_script", "_law_k"] (zF EE):=by exact "1"
noncomputable def QU:Aj :=
  (zP (Ar 0))
noncomputable def QV:Aj :=
  zu (zT (mB (zh j8 (zc 1) (zq yx (ze (zc 0) zk))))
  (zP (zh zm (zc 0) (zc 1)))
  zX) (QU)
noncomputable def wf:Al:=zL 2 2 (QV)
def zba (T:Txt w K mg):bg P w K mg base "_law_cell_at" 1 wf:=T.f__law_cell_at.ok (k:=0) QT λ_ _ _ _ _ _ _ hr=>by
 exact "y k DzaD N s n G r z H f h G N g M z H u"
theorem zdH:au ["_law_script", "_law_k", "_law_pre", "_law_at", "_law_sign"] ["_law_script", "_law_k"] (zF EF):=by exact "1"
noncomputable def QW:Aj :=
  (zP (zh yH (zh yH (l9 (zc 2) iK (dM (zc 3))) (zc 4)) (l9 (zc 2) (dM (zc 3)) iK)))
noncomputable def QX:Aj :=
  zu (zJ 4 (zh yH (zh zm (As "abcdefghijklmnopqrstuvwxyz") (zh yS (zc 1) (Ar 26))) (zh zm (As "hjkl") (zh wt (zc 1) (Ar 26))))) (QW)
noncomputable def QY:Aj :=
  zu (zJ 3 (zh yS (zq wf (ze (zc 0) (ze (Ar 1) zk))) (zh yH (zq yx (ze (zc 2) zk)) (Ar 1)))) (QX)
noncomputable def QZ:Aj :=
  zu (zJ 2 (zh zm (jz (sV ["", "a", "b7", "x0zq", "zzzzz"])) (zh yS (zq wf (ze (zc 0) (ze (Ar 0) zk))) (Ar 5)))) (QY)
noncomputable def my:Al:=zL 2 5 (QZ)
theorem zfF (T:Txt w K mg):bg P w K mg base "_law_name" 2 my:=T.f__law_name.ok (k:=1) zdH λ_ _ _ _ _ _ _ hr=>by
 exact "y i2 f h djY dzih"
 decide +kernel
 exact "mwC ezba n G n u r u g czdH.nd y i3 mwC ezba n G n u r mjM s n Z r u czdH.nd y i4 mjM f h L mwC N u g f h L mzb7 N u g czdH.nd z H mjM mjM UzeK Z czhF dzdj b3 b4 UzeK Z dzdj b3 czhF"
theorem Q0:au ["_law_cell"] ["_law_cell"] (zF EG):=by exact "1"
noncomputable def Q1:Aj :=
  (zP (zh pN (zh yS (zc 0) (zh yH (zh iO (Ar 2) (zh sr (Ar 10) (Ar 15))) (Ar 1))) (zh sr (Ar 10) (Ar 15))))
noncomputable def mz:Al:=zL 1 1 (Q1)
def zjl (T:Txt w K mg):bg P w K mg base "_law_number" 1 mz:=T.f__law_number.ok (k:=0) Q0 λ_ _ _ _ _ _ _ hr=>by
 exact "z H mzeE mwC G mjM mzig u mzhy u u u mzhy u u"
theorem Q3:au ["_law_cell", "_law_names"] ["_law_cell", "_law_names"] (zF EH):=by exact "1"
noncomputable def Q4:Aj :=
  (zP (yd (ze (As "of") (ze (zh zm (zc 1) (zh yS (zh wt (zc 0) (Ar 4)) (zq yx (ze (zc 1) zk)))) zk))))
noncomputable def Q5:Aj :=
  zu (zT (mB (zh ya (zh yS (zc 0) (Ar 4)) (Ar 1)))
  (zP (yd (ze (As "of") (ze (zh zm (zc 1) (yg nL (Ar 1))) zk))))
  zX) (Q4)
noncomputable def Q6:Aj :=
  zu (zT (wA (mB (zh ya (zh yS (zc 0) (Ar 4)) (Ar 0))) (mB (zh ya (zq yx (ze (zc 1) zk)) (Ar 0))))
  (zP (yd (ze (As "is") (ze (zq mz (ze (zh wt (zc 0) (Ar 4)) zk)) zk))))
  zX) (Q5)
noncomputable def kU:Al:=zL 2 2 (Q6)
def zfG (T:Txt w K mg):bg P w K mg base "_law_atom" 2 kU:=T.f__law_atom.ok (k:=1) Q3 λ_ _ _ _ _ _ _ hr=>by
 exact "y k dzai azde jyL mwC G u u dzeA jyL s n N r u z H P n L n ezjl n mzb7 G u r r M y k jyL mwC G u u z H P n L n f h N 0 u g r M z H P n L n f h N mwC mzb7 G u s n N r g r"
theorem zaM:au ["_law_script", "_law_names", "_law_steps_here", "_law_sums", "_law_k", "_law_cell", "_law_op", "_law_atoms"] ["_law_script", "_law_names"] (zF EI):=by exact "1"
noncomputable def Q7:Aj :=
  (zP (zc 2))
noncomputable def Q8:Aj :=
  zu (nS (ze (l9 (zc 0) (dM (Ar 10)) (dM (Ar 40))) zk) (g2 4 5)
  (zu (zJ 6 (zh zm (jz (sV ["add", "sub", "less", "same"])) (zh yS (zc 5) (Ar 4))))
  (zu (zT (mB (zh (yt false) (zc 6) (yd (ze (As "add") (ze (As "sub") zk)))))
  (zJ 3 (zh yH (zc 3) (Ar 1)))
  zX)
  (zu (zT (mB (zh kI (zc 3) (Ar 9)))
  (zJ 6 (As "less"))
  zX)
  (zu (zJ 7 (yd (ze (zq kU (ze (zh wt (zc 5) (Ar 4)) (ze (zc 1) zk))) (ze (zq kU (ze (zh wt (zc 5) (Ar 1009)) (ze (zc 1) zk))) zk))))
  (zu (jb (jh js (zc 1) (zq my (ze (zc 0) (ze (zq yx (ze (zc 1) zk)) zk)))))
  (jb (jh js (zc 2) (yd (ze (As "let") (ze (zh zm (zc 1) (yg nL (Ar 1))) (ze (zc 6) (ze (zc 7) zk))))))))))))) (Q7)
noncomputable def Q9:Aj :=
  zu (zJ 3 (Ar 0)) (Q8)
noncomputable def Q_:Aj :=
  zu (zJ 2 (jz zk)) (Q9)
noncomputable def x6:Al:=zL 2 8 (Q_)
theorem zrW (T:Txt w K mg):bg P w K mg base "_law_steps" 3 x6:=T.f__law_steps.ok (k:=2) zaM λ_ _ _ _ _ _ _ hr=>by
 exact "y i2 djY r czaM.nd y i3 u czaM.nd y K n UzeK G dzdj u dzdj u r"
 exact (pU 4 5 rfl zaM.nd)
 exact "y i6 f h djY dzih"
 decide +kernel
 exact "mwC b5 u g czaM.nd y k jza4 b6 P n L n L r z i3 mjM b3 u czaM.nd M y k DzhA b3 u z i6 L czaM.nd M y i7 P n ezfG n mzb7 b5 u n N r n ezfG n mzb7 b5 u n N r r czaM.nd y dwu azak N ezfF n G n s n N r r z dwu azak Z P n L n f h N 0 u g n b6 n b7 r z H Z"
theorem Ra:au ["_law_atom_here", "_law_things"] ["_law_atom_here", "_law_things"] (zF EO):=by exact "1"
noncomputable def Rb:Aj :=
  (zP (zc 0))
noncomputable def Rc:Aj :=
  zu (zT (jF (mB (zh ya (zh zm (zc 0) (Ar 0)) (As "of"))) (mB (zh (yt false) (zh zm (zc 0) (Ar 1)) (zc 1))))
  (zP (yd (ze (As "is") (ze (zh zm (zc 1) (zh zm (zc 0) (Ar 1))) zk))))
  zX) (Rb)
noncomputable def n6:Al:=zL 2 2 (Rc)
def zjm (T:Txt w K mg):bg P w K mg base "_law_left" 1 n6:=T.f__law_left.ok (k:=0) Ra λ_ _ _ _ _ _ _ hr=>by
 exact "y k dzai aza0 jyL f h G u g L dzbs jza4 f h G u g N z H P n L n f h N f h G u g g r M z H G"
theorem Rf:au ["_law_op", "_law_one", "_law_other"] ["_law_op", "_law_one", "_law_other"] (zF ER):=by exact "1"
noncomputable def Rg:Aj :=
  (zP (zq sy (ze (zh nY (zc 1) (zc 2)) zk)))
noncomputable def Rh:Aj :=
  zu (zT (mB (zh ya (zc 0) (As "less")))
  (zP (zq sy (ze (zh j8 (zc 1) (zc 2)) zk)))
  zX) (Rg)
noncomputable def Ri:Aj :=
  zu (zT (mB (zh ya (zc 0) (As "sub")))
  (zP (zh pN (zc 1) (zc 2)))
  zX) (Rh)
noncomputable def Rj:Aj :=
  zu (zT (mB (zh ya (zc 0) (As "add")))
  (zP (zh yH (zc 1) (zc 2)))
  zX) (Ri)
noncomputable def qr:Al:=zL 3 3 (Rj)
def zr5 (T:Txt w K mg):bg P w K mg base "_law_told" 1 qr:=T.f__law_told.ok (k:=0) Rf λ_ _ _ _ _ _ _ hr=>by
 exact "y k jyL G L z H mjM N Z M y k jyL G L z H mzeE N Z M y k jyL G L z H"
 refine je Df T.b_int xl ?_
 exact "n"
 refine wB zaD ?_ ?_
 exact "N Z r M z H"
 refine je Df T.b_int xl ?_
 exact "n Fze5 N Z r"
theorem zfI:au ["program", "functions", "function"] ["program"] (zF EU):=by exact "1"
noncomputable def Rk:Aj :=
  (zP (zc 1))
noncomputable def Rl:Aj :=
  zu (jf (yD (zc 0)) (gN 2)
  (jD (zc 1) (zh zm (zc 2) (Ar 0)) (zc 2))) (Rk)
noncomputable def Rm:Aj :=
  zu (zJ 1 kO) (Rl)
noncomputable def qt:Al:=zL 1 3 (Rm)
def zfJ (T:Txt w K mg):bg P w K mg base "functions_by_name" 1 qt:=T.f_functions_by_name.ok (k:=0) zfI λ_ _ _ _ _ _ _ hr=>by
 exact "y i1 cza3 czfI.nd y q djg G"
 exact (wD 2 zfI.nd)
 exact "z BzaG I N f h Z u g Z"
 rfl
 exact "z H N"
theorem zfK:au ["names", "marks", "name"] ["names"] (zF EV):=by exact "1"
noncomputable def Rn:Aj :=
  (zP (zc 1))
noncomputable def Ro:Aj :=
  zu (jf (yD (zc 0)) (gN 2)
  (iR (zc 1) (zc 2) (mC (.bl true)))) (Rn)
noncomputable def Rp:Aj :=
  zu (zJ 1 kO) (Ro)
noncomputable def iS:Al:=zL 1 3 (Rp)
def zbH (T:Txt w K mg):bg P w K mg base "marked" 1 iS:=T.f_marked.ok (k:=0) zfK λ_ _ _ _ _ _ _ hr=>by
 exact "y i1 cza3 czfK.nd y q djg G"
 exact (wD 2 zfK.nd)
 exact "z Bzfg I N Z czb4"
 rfl
 exact "z H N"
theorem Rq:au ["bits", "place"] ["bits", "place"] (zF EW):=by exact "1"
noncomputable def Rr:Aj :=
  (zP (zh ya (zh wV (zh wW (zc 0) (zc 1)) (Ar 1)) (Ar 1)))
noncomputable def n8:Al:=zL 2 2 (Rr)
def zjn (T:Txt w K mg):bg P w K mg base "is_later_at" 1 n8:=T.f_is_later_at.ok (k:=0) Rq λ_ _ _ _ _ _ _ hr=>by
 exact "z H FyL mze0 mze1 G N u u"
theorem Rt:au ["function", "bits"] ["function", "bits"] (zF zfi):=by exact "1"
noncomputable def Ru:Aj :=
  (zP (zq yW (ze (qq (ze (zh zm (zc 0) (Ar 1)) zk) (mB (zq n8 (ze (zc 3) (ze (zc 0) zk)))) (zc 1)) zk)))
noncomputable def n9:Al:=zL 2 2 (Ru)
theorem zdI (T:Txt w K mg):bg P w K mg base "later_params" 2 n9:=T.f_later_params.ok (k:=1) Rt λ_ _ _ _ _ _ _ hr=>by
 exact "z H p n Azfi n f h G u g r x djL Czjn n b3 n G r x N r"
theorem zfL:au ["block", "end", "lines"] ["block"] (zF EX):=by exact "1"
noncomputable def Rv:Aj :=
  (zP (zc 2))
noncomputable def Rw:Aj :=
  zu (zT (mB (zh ya (zh zm (zc 1) (Ar 0)) (As "if")))
  yw
  zX) (Rv)
noncomputable def Rx:Aj :=
  zu (zJ 2 (zh yH (zh zm (zc 0) (Ar 0)) (yd (ze (zc 1) zk)))) (Rw)
noncomputable def Ry:Aj :=
  zu (zJ 1 (zh zm (zc 0) (Ar 1))) (Rx)
noncomputable def n_:Al:=zL 1 3 (Ry)
def zfM (T:Txt w K mg):bg P w K mg base "lines_of" 1 n_:=T.f_lines_of.ok (k:=0) zfL λ_ _ _ _ _ _ _ hr=>by
 exact "y i1 f h G u g czfL.nd y i2 mjM f h G u g P n N r czfL.nd y k jyL f h N u g L z R M z H Z"
theorem zdJ:au ["truths", "bits", "place", "truth"] ["truths"] (zF EY):=by exact "1"
noncomputable def FC:Aj :=
  (zP (zc 1))
noncomputable def FE:Aj :=
  zu (nS (ze (zc 0) zk) (g2 2 3)
  (zT (mB (zc 3))
  (zJ 1 (zh xx (zc 1) (zh pZ (Ar 1) (zc 2))))
  zX)) (FC)
noncomputable def FG:Aj :=
  zu (zJ 1 (Ar 0)) (FE)
noncomputable def qu:Al:=zL 1 4 (FG)
def zjr (T:Txt w K mg):bg P w K mg base "bits_of" 1 qu:=T.f_bits_of.ok (k:=0) zdJ λ_ _ _ _ _ _ _ hr=>by
 exact "y i1 u czdJ.nd y K n G r"
 exact (pU 2 3 rfl zdJ.nd)
 exact "z k djL b3 z i1 mzqd N mzh8 u Z czdJ.nd M z H N"
theorem Rz:au ["atoms", "later"] ["atoms", "later"] (zF zfj):=by exact "1"
noncomputable def RA:Aj :=
  (zP (zq qu (ze (y8 (yD (zc 0)) (kD (zh ya (zh zm (zc 0) (Ar 0)) (As "of")) (zh (yt false) (zh zm (zc 0) (Ar 1)) (zc 2)))) zk)))
noncomputable def mD:Al:=zL 2 2 (RA)
theorem zjs (T:Txt w K mg):bg P w K mg base "need" 2 mD:=T.f_need.ok (k:=1) Rz λ_ _ _ _ _ _ _ hr=>by
 exact "z H ezjr n"
 refine kR (N:=["atoms", "later"]) rfl (by exact "2zfj") rfl (by decide +kernel) ?_ ?_
 exact "djg G x azht FyL f h G u g L dzeB Fza4 f h G u g Z r"
theorem RB:au ["line"] ["line"] (zF EZ):=by exact "1"
noncomputable def RC:Aj :=
  (zP (zh (yt false) (zh zm (zc 0) (Ar 0)) (yd (ze (As "let") (ze (As "call") zk)))))
noncomputable def mE:Al:=zL 1 1 (RC)
def zjt (T:Txt w K mg):bg P w K mg base "is_step" 1 mE:=T.f_is_step.ok (k:=0) RB λ_ _ _ _ _ _ _ hr=>by
 exact "z H Fza4 f h G u g P n L n L r"
theorem RD:au ["line"] ["line"] (zF E9):=by exact "1"
noncomputable def RE:Aj :=
  yw
noncomputable def RF:Aj :=
  zu (zT (mB (zh ya (zh zm (zc 0) (Ar 0)) (As "fail")))
  yw
  zX) (RE)
noncomputable def RG:Aj :=
  zu (zT (mB (zh ya (zh zm (zc 0) (Ar 0)) (As "go")))
  yw
  zX) (RF)
noncomputable def RH:Aj :=
  zu (zT (mB (zq mE (ze (zc 0) zk)))
  (zP (zh zm (zc 0) (Ar 3)))
  zX) (RG)
noncomputable def mF:Al:=zL 1 1 (RH)
def zju (T:Txt w K mg):bg P w K mg base "atoms_of" 2 mF:=T.f_atoms_of.ok (k:=1) RD λ_ _ _ _ _ _ _ hr=>by
 exact "y k djL ezjt n G r z H f h G u g M y k jyL f h G u g L z R M y k jyL f h G u g L z R M z R"
theorem RI:au ["line", "later"] ["line", "later"] (zF E_):=by exact "1"
noncomputable def RJ:Aj :=
  (zP (mC .non))
noncomputable def RK:Aj :=
  zu (zT (jF (mB (zh ya (zh zm (zc 0) (Ar 0)) (As "call"))) (mB (zh (yt true) (zh zm (zc 0) (Ar 1)) (zc 1))))
  (zP (As "call"))
  zX) (RJ)
noncomputable def RL:Aj :=
  zu (zT (jF (mB (zh ya (zh zm (zc 0) (Ar 0)) (As "let"))) (jF (mB (zh jN (zq mD (ze (zq mF (ze (zc 0) zk)) (ze (zc 1) zk))) (Ar 0))) (mB (zh (yt true) (zh zm (zc 0) (Ar 1)) (zc 1)))))
  (zP (As "let"))
  zX) (RK)
noncomputable def qv:Al:=zL 2 2 (RL)
def zsx (T:Txt w K mg):bg P w K mg base "broken_name" 3 qv:=T.f_broken_name.ok (k:=2) RI λ_ _ _ _ _ _ _ hr=>by
 exact "y k dzai aza0 jyL f h G u g L aza0 jzbu ezjs n ezju n G r n N r u dzbs jzeY f h G u g N z H L M y k dzai aza0 jyL f h G u g L dzbs jzeY f h G u g N z H L M z H cwz"
theorem RM:au ["line"] ["line"] (zF Fb):=by exact "1"
noncomputable def RN:Aj :=
  (zP (mC .non))
noncomputable def RO:Aj :=
  zu (zT (mB (zh ya (zh zm (zc 0) (Ar 0)) (As "go")))
  yw
  zX) (RN)
noncomputable def RP:Aj :=
  zu (zT (mB (zh ya (zh zm (zc 0) (Ar 0)) (As "call")))
  yw
  zX) (RO)
noncomputable def iT:Al:=zL 1 1 (RP)
def zfN (T:Txt w K mg):bg P w K mg base "aim_of" 1 iT:=T.f_aim_of.ok (k:=0) RM λ_ _ _ _ _ _ _ hr=>by
 exact "y k jyL f h G u g L z R M y k jyL f h G u g L z R M z H cwz"
theorem zbg:au ["function", "form", "pairs", "later", "place", "line", "word", "aim"] ["function", "form", "pairs"] (zF Fc):=by exact "1"
noncomputable def RQ:Aj :=
  (zP (mC .non))
noncomputable def RR:Aj :=
  zu (jf (yD (zq n_ (ze (zh zm (zc 0) (Ar 2)) zk))) (gN 5)
  (zu (zJ 6 (zq qv (ze (zc 5) (ze (zc 3) zk))))
  (zu (zT (mB (zh j1 (zc 6) (mC .non)))
  yw
  zX)
  (zu (zJ 7 (zq iT (ze (zc 5) zk)))
  (zT (mB (zh j1 (zc 7) (mC .non)))
  (zu yw
  (zu (zT (mB (zh j1 (zc 6) (mC .non)))
  yw
  zX)
  (pS 4 iM (Ar 1))))
  zX))))) (RQ)
noncomputable def RS:Aj :=
  zu (zJ 4 (Ar 0)) (RR)
noncomputable def RT:Aj :=
  zu (zJ 3 (zq iS (ze (zh yH (zq n9 (ze (zc 0) (ze (zh zm (zc 1) (Ar 1)) zk))) (zh zm (zc 1) (Ar 2))) zk))) (RS)
noncomputable def x8:Al:=zL 3 8 (RT)
def zsG (T:Txt w K mg):bg P w K mg base "broken_form" 4 x8:=T.f_broken_form.ok (k:=3) zbg λ_ _ _ _ _ _ _ hr=>by
 exact "y i3 ezbH n mjM ezdI n G n f h N u g r f h N u g r czbg.nd y i4 u czbg.nd y q djg ezfM n f h G u g r"
 exact (wD 5 zbg.nd)
 exact "y i6 ezsx n b5 n b3 r czbg.nd y k Dza6 b6 cwz z R M y i7 ezfN n b5 r czbg.nd z k Dza6 b7 cwz y R y k Dza6 b6 cwz z R M z"
 refine Dl 4 Dk ?_ zbg.nd
 exact "u M z H cwz"
theorem zct:au ["program", "parting", "functions", "pairs", "form", "row"] ["program", "parting"] (zF zfk):=by exact "1"
noncomputable def RU:Aj :=
  (zP (mC .non))
noncomputable def RV:Aj :=
  zu (jf (yD (zc 1)) (gN 4)
  (zu (zJ 5 (zq x8 (ze (zh zm (zc 2) (zh zm (zc 4) (Ar 0))) (ze (zc 4) (ze (zc 3) zk)))))
  (zT (mB (zh j1 (zc 5) (mC .non)))
  yw
  zX))) (RU)
noncomputable def RW:Aj :=
  zu (zJ 3 (zq iS (ze (y8 (yD (zc 1)) (yd (ze (zh zm (zc 0) (Ar 0)) (ze (zh zm (zc 0) (Ar 1)) zk)))) zk))) (RV)
noncomputable def RX:Aj :=
  zu (zJ 2 (zq qt (ze (zc 0) zk))) (RW)
noncomputable def qw:Al:=zL 2 6 (RX)
theorem zsL (T:Txt w K mg):bg P w K mg base "broken" 5 qw:=T.f_broken.ok (k:=4) zct λ_ _ _ _ _ _ _ hr=>by
 exact "y i2 ezfJ n G r czct.nd y i3 ezbH n"
 refine DM (M:=["program", "parting", "functions", "pairs", "~form", "row"]) rfl (by exact "2zfk") (by exact ⟨rfl,by show ∀p∈List.zip (["program", "parting", "functions", "pairs", "~form", "row"]:Ad) (["program", "parting", "functions", "pairs", "form", "row"]:Ad),p.1=p.2\/p.1∉(_:Ad);decide +kernel⟩) (by decide +kernel) ?_ ?_
 exact "djg N x P n f h G u g n f h G u g r r czct.nd y q djg N"
 exact (wD 4 zct.nd)
 exact "y i5 ezsG n f h Z f h b4 u g g n b4 n b3 r czct.nd z k Dza6 b5 cwz z R M z H cwz"
theorem zfP:au ["parting", "forms", "form"] ["parting"] (zF Fd):=by exact "1"
noncomputable def RY:Aj :=
  (zP (zc 1))
noncomputable def RZ:Aj :=
  zu (jf (yD (zc 0)) (gN 2)
  (iR (zc 1) (yd (ze (zh (aP zm) (zc 2) (Ar 0)) (ze (zh (aP zm) (zc 2) (Ar 1)) zk))) (zc 2))) (RY)
noncomputable def R3:Aj :=
  zu (zJ 1 kO) (RZ)
noncomputable def x9:Al:=zL 1 3 (R3)
def zsP (T:Txt w K mg):bg P w K mg base "forms_by_pair" 1 x9:=T.f_forms_by_pair.ok (k:=0) zfP λ_ _ _ _ _ _ _ hr=>by
 exact "y i1 cza3 czfP.nd y q djg G"
 exact (wD 2 zfP.nd)
 exact "z Bzfg I N P n f l Z u g n f l Z u g r Z"
 rfl
 exact "z H N"
theorem R4:au ["self", "limit"] ["self", "limit"] (zF zfl):=by exact "1"
noncomputable def R5:Aj :=
  (sFld "names" insOf (zc 0) kO)
noncomputable def R6:Aj :=
  zu (sFld "met" insOf (zc 0) (jz zk)) (R5)
noncomputable def R7:Aj :=
  zu (sFld "limit" insOf (zc 0) (zc 1)) (R6)
noncomputable def qx:Al:=zL 2 2 (R7)
def zsU (T:Txt w K mg):g9 P w K mg base "KeyRing" 1 qx:=T.n_KeyRing.ok (k:=0) R4 λ_ _ _ _ _ _ _ hr=>by
 exact "y ET.d_limit G N y ET.d_met G djY r z ET.d_names G cza3"
theorem R8:au ["value"] ["value"] (zF Fe):=by exact "1"
noncomputable def FI:Aj :=
  (zP (As "number"))
noncomputable def FJ:Aj :=
  zu (zT (mB (zq (jS isT) (ze (zc 0) (ze (mC (.ty "dict")) zk))))
  (zP (As "record"))
  zX) (FI)
noncomputable def FK:Aj :=
  zu (zT (mB (zq (jS isT) (ze (zc 0) (ze (mC (.ty "tuple")) zk))))
  (zP (As "row"))
  zX) (FJ)
noncomputable def FL:Aj :=
  zu (zT (mB (zq (jS isT) (ze (zc 0) (ze (mC (.ty "str")) zk))))
  (zP (As "word"))
  zX) (FK)
noncomputable def mG:Al:=zL 1 1 (FL)
def zjz (T:Txt w K mg):bg P w K mg base "kind_of" 1 mG:=T.f_kind_of.ok (k:=0) R8 λ_ _ _ _ _ _ _ hr=>by
 exact "y k djL t n G n"
 exact (wR T.b_str xm)
 exact "r z H L M y k djL t n G n O r z H L M y k djL t n G n"
 exact (wR T.b_dict Dt)
 exact "r z H L M z H L"
theorem zfR:au ["value", "kind", "shown"] ["value"] (zF zfm):=by exact "1"
noncomputable def R9 (mr:Al):Aj :=
  yw
noncomputable def R_ (mr:Al):Aj :=
  zu yw (R9 mr)
noncomputable def Sa (mr:Al):Aj :=
  zu (zT (mB (zh ya (zc 1) (As "row")))
  (zP (zh yH (zh yH (As "[") (tD (As ",") (y8 (yD (zc 0)) (zq mr (ze (zc 0) zk))))) (As "]")))
  zX) (R_ mr)
noncomputable def Sb (mr:Al):Aj :=
  zu (zT (mB (zh ya (zc 1) (As "word")))
  yw
  zX) (Sa mr)
noncomputable def Sd (mr:Al):Aj :=
  zu (zT (mB (zh ya (zc 1) (As "number")))
  (zP (zq p8 (ze (zc 0) zk)))
  zX) (Sb mr)
noncomputable def Se (mr:Al):Aj :=
  zu (zJ 1 (zq mG (ze (zc 0) zk))) (Sd mr)
noncomputable def tN (mr:Al):Al:=zL 1 3 (Se mr)
theorem Sf (T:Txt w K mg) {k:Nat} (hk:1<=k) {mr:Al} (FA:bg P w K mg base "show_value" k mr):bg P w K mg base "show_value" (k+1) (tN mr):=T.f_show_value.ok (k:=k+0) zfR λ_ _ _ _ _ _ _ hr=>by
 exact "y i1"
 refine zO (zjz T) (hr.mono (by omega)) zK ?_
 exact "n G r czfR.nd y k jyL N L z H"
 refine je OY T.b_str xm ?_
 exact "n G r M y k jyL N L z R M y k jyL N L z H mjM mjM L azq4 L"
 refine kR (N:=["value", "kind", "shown"]) rfl (by exact "2zfm") rfl (by decide +kernel) ?_ ?_
 exact "djg G x X n G r L M y R z R"
noncomputable def kW:Nat->Al
 | 0=>zL 1 3 yw
 | n+1=>tN (kW n)
theorem FN (T:Txt w K mg):∀n,bg P w K mg base "show_value" (1+1+1*n) (kW n)
 | 0=>T.f_show_value.ok (k:=1) zfR λf aX A outer s H E hr=>D5
 | n+1=>(Sf T (by omega) (FN T n)).mono (by omega)
theorem zfS:au ["self", "key", "shown", "number"] ["self", "key"] (zF zfn):=by exact "1"
noncomputable def Sg:Aj :=
  (zP (zh (aP zm) (yg (aS "names" insOf excOf) (zc 0)) (zc 2)))
noncomputable def FP:Aj :=
  zu (zT (mB (zh (cA (yt true) true) (zc 2) (yg (aS "names" insOf excOf) (zc 0))))
  (zu (zJ 3 (zq yx (ze (yg (aS "met" insOf excOf) (zc 0)) zk)))
  (zu (zT (mB (zh nY (zc 3) (yg (aS "limit" insOf excOf) (zc 0))))
  yw
  zX)
  (zu (jb (jh js (yg (aS "met" insOf excOf) (zc 0)) (zc 1)))
  (iR (yg (aS "names" insOf excOf) (zc 0)) (zc 2) (yg (x5 "q") (zc 3))))))
  zX) (Sg)
noncomputable def FQ:Aj :=
  zu (zJ 2 (yd (ze (zh (aP zm) (zc 1) (Ar 0)) (ze (zh (aP zm) (zc 1) (Ar 1)) (ze (zq (kW 4) (ze (zh (aP zm) (zc 1) (Ar 2)) zk)) zk))))) (FP)
noncomputable def m_KeyRing_name_for:Al:=zL 2 4 (FQ)
def Si (T:Txt w K mg):cC P w K mg base "KeyRing" "name_for" 7 m_KeyRing_name_for:=T.m_KeyRing_name_for.ok (k:=6) zfS λ_ _ _ _ _ _ _ hr=>by
 exact "y i2 P n f l N u g n f l N u g n"
 refine zO (FN T 4) (hr.mono (by decide)) zK ?_
 exact "n f l N u g r r czfS.nd y k"
 refine yi (Ql (zo hr) (zeY (zo hr))) ?_ ?_
 exact "Z wT.d_names G y i3 s n wT.d_met G r czfS.nd y k jze5 b3 wT.d_limit G z R M y dwu azak wT.d_met G N z Bzfg I wT.d_names G Z dzrB b3"
 rfl
 exact "M z H f l wT.d_names G Z g"
noncomputable def tO (c:Str):Option (Al):=if c = "KeyRing" then some m_KeyRing_name_for else none
def zjD (T:Txt w K mg) {c:Str} {m:Al} (h:tO c=some m):cC P w K mg base c "name_for" 7 m:=by
 unfold tO at h
 by_cases e0:c = "KeyRing"
 ·rw [zx e0] at h;cases h;rw [e0];exact (Si T).mono (by decide)
 rw [zH e0] at h
 cases h
theorem Sj:au ["function", "bits"] ["function", "bits"] (zF zfo):=by exact "1"
noncomputable def Sk:Aj :=
  (zP (zq yW (ze (qq (ze (zh zm (zc 0) (Ar 1)) zk) (kC (mB (zq n8 (ze (zc 3) (ze (zc 0) zk))))) (zc 1)) zk)))
noncomputable def x_:Al:=zL 2 2 (Sk)
theorem zs7 (T:Txt w K mg):bg P w K mg base "known_params" 2 x_:=T.f_known_params.ok (k:=1) Sj λ_ _ _ _ _ _ _ hr=>by
 exact "z H p n Azfo n f h G u g r x dzdf djL Czjn n b3 n G r x N r"
theorem Sl:au ["self", "value"] ["self", "value"] (zF zfp):=by exact "1"
noncomputable def Sm:Aj :=
  (sFld "value" insOf (zc 0) (zc 1))
noncomputable def iU:Al:=zL 2 2 (Sm)
def zfU (T:Txt w K mg):g9 P w K mg base "Known" 1 iU:=T.n_Known.ok (k:=0) Sl λ_ _ _ _ _ _ _ hr=>by
 exact "z ET.d_value G N"
theorem Sn:au ["self", "name"] ["self", "name"] (zF zfq):=by exact "1"
noncomputable def So:Aj :=
  (sFld "name" insOf (zc 0) (zc 1))
noncomputable def kX:Al:=zL 2 2 (So)
def zjE (T:Txt w K mg):g9 P w K mg base "Later" 1 kX:=T.n_Later.ok (k:=0) Sn λ_ _ _ _ _ _ _ hr=>by
 exact "z ET.d_name G N"
theorem y_:au ["self", "ring", "function", "form", "values", "param", "value"] ["self", "ring", "function", "form", "values"] (zF zfr):=by exact "1"
noncomputable def Sr:Aj :=
  (jf (yD (zq n9 (ze (zc 2) (ze (zh zm (zc 3) (Ar 1)) zk)))) (gN 5)
  (jD (yg (aS "things" insOf excOf) (zc 0)) (zc 5) (zq (bI "Later" kX) (ze (zc 5) zk))))
noncomputable def Ss:Aj :=
  zu (jf (nR (ze (zq x_ (ze (zc 2) (ze (zh zm (zc 3) (Ar 1)) zk))) (ze (zc 4) zk))) (g2 5 6)
  (jD (yg (aS "things" insOf excOf) (zc 0)) (zc 5) (zq (bI "Known" iU) (ze (zc 6) zk)))) (Sr)
noncomputable def Su:Aj :=
  zu (sFld "things" insOf (zc 0) kO) (Ss)
noncomputable def Sv:Aj :=
  zu (sFld "goals" insOf (zc 0) (zh zm (zc 3) (Ar 3))) (Su)
noncomputable def Sw:Aj :=
  zu (sFld "later" insOf (zc 0) (zq iS (ze (zh zm (zc 3) (Ar 2)) zk))) (Sv)
noncomputable def Sx:Aj :=
  zu (sFld "ring" insOf (zc 0) (zc 1)) (Sw)
noncomputable def qy:Al:=zL 5 7 (Sx)
def zti (T:Txt w K mg):g9 P w K mg base "Making" 3 qy:=T.n_Making.ok (k:=2) y_ λ_ _ _ _ _ _ _ hr=>by
 exact "y ET.d_ring G N y ET.d_later G ezbH n f h b3 u g r y ET.d_goals G f h b3 u g y ET.d_things G cza3 y q W n ezs7 n Z n f h b3 u g r n b4 r"
 exact (pU 5 6 rfl y_.nd)
 exact "z BzaG I Y G b5 vzfU n b6 r"
 rfl
 exact "z q djg ezdI n Z n f h b3 u g r"
 exact (wD 5 y_.nd)
 exact "z BzaG I Y G b5 vzjE n b5 r"
 rfl
theorem Sy:au ["atom", "things"] ["atom", "things"] (zF Ff):=by exact "1"
noncomputable def Sz:Aj :=
  (zP (zh zm (zc 1) (zh zm (zc 0) (Ar 1))))
noncomputable def SA:Aj :=
  zu (zT (mB (zh ya (zh zm (zc 0) (Ar 0)) (As "is")))
  (zP (zq (bI "Known" iU) (ze (zh zm (zc 0) (Ar 1)) zk)))
  zX) (Sz)
noncomputable def qz:Al:=zL 2 2 (SA)
def zjF (T:Txt w K mg):bg P w K mg base "thing_of" 3 qz:=T.f_thing_of.ok (k:=2) Sy λ_ _ _ _ _ _ _ hr=>by
 exact "y k jyL f h G u g L z H vzfU n f h G u g r M z H f h N f h G u g g"
theorem SD:au ["self", "atoms"] ["self", "atoms"] (zF zdD):=by exact "1"
noncomputable def SE:Aj :=
  (zP (y8 (yD (zc 1)) (zq qz (ze (zc 0) (ze (yg (aS "things" insOf excOf) (zc 1)) zk)))))
noncomputable def m_Making_things_at:Al:=zL 2 2 (SE)
theorem SF (T:Txt w K mg):cC P w K mg base "Making" "things_at" 4 m_Making_things_at:=T.m_Making_things_at.ok (k:=3) SD λ_ _ _ _ _ _ _ hr=>by
 exact "z H"
 refine kR (N:=["self", "atoms"]) rfl (by exact "2zdD") rfl (by decide +kernel) ?_ ?_
 exact "djg N x CzjF n G n Y N r"
noncomputable def qA (c:Str):Option (Al):=if c = "Making" then some m_Making_things_at else none
def zjG (T:Txt w K mg) {c:Str} {m:Al} (h:qA c=some m):cC P w K mg base c "things_at" 4 m:=by
 unfold qA at h
 by_cases e0:c = "Making"
 ·rw [zx e0] at h;cases h;rw [e0];exact (SF T).mono (by decide)
 rw [zH e0] at h
 cases h
theorem SG:au ["self"] ["self"] (zF zfs):=by exact "1"
noncomputable def SH:Aj :=
  (zP (yd (ze (As "is") (ze (yg (aS "value" insOf excOf) (zc 0)) zk))))
noncomputable def m_Known_atom:Al:=zL 1 1 (SH)
def SI (T:Txt w K mg):cC P w K mg base "Known" "atom" 1 m_Known_atom:=T.m_Known_atom.ok (k:=0) SG λ_ _ _ _ _ _ _ hr=>by
 exact "z H P n L n wT.d_value G r"
theorem SJ:au ["self"] ["self"] (zF zft):=by exact "1"
noncomputable def SN:Aj :=
  (zP (yd (ze (As "of") (ze (yg (aS "name" insOf excOf) (zc 0)) zk))))
noncomputable def m_Later_atom:Al:=zL 1 1 (SN)
def SQ (T:Txt w K mg):cC P w K mg base "Later" "atom" 1 m_Later_atom:=T.m_Later_atom.ok (k:=0) SJ λ_ _ _ _ _ _ _ hr=>by
 exact "z H P n L n wT.d_name G r"
noncomputable def kY (c:Str):Option (Al):=if c = "Known" then some m_Known_atom else if c = "Later" then some m_Later_atom else none
def QS (T:Txt w K mg) {c:Str} {m:Al} (h:kY c=some m):cC P w K mg base c "atom" 1 m:=by
 unfold kY at h
 by_cases e0:c = "Known"
 ·rw [zx e0] at h;cases h;rw [e0];exact (SI T).mono (by decide)
 rw [zH e0] at h
 by_cases e1:c = "Later"
 ·rw [zx e1] at h;cases h;rw [e1];exact (SQ T).mono (by decide)
 rw [zH e1] at h
 cases h
theorem zjI:au ["self", "step", "atoms"] ["self", "step"] (zF zdE):=by exact "1"
noncomputable def SR:Aj :=
  (zP (yd (ze (As "let") (ze (zh zm (zc 1) (Ar 1)) (ze (zh zm (zc 1) (Ar 2)) (ze (zc 2) zk))))))
noncomputable def SS:Aj :=
  zu (jD (yg (aS "things" insOf excOf) (zc 0)) (zh zm (zc 1) (Ar 1)) (zq (bI "Later" kX) (ze (zh zm (zc 1) (Ar 1)) zk))) (SR)
noncomputable def SU:Aj :=
  zu (zJ 2 (zq yW (ze (y8 (yD (y3 "things_at" qA (zc 0) (ze (zh zm (zc 1) (Ar 3)) zk))) (y3 "atom" kY (zc 0) zk)) zk))) (SS)
noncomputable def m_Making_left_let:Al:=zL 2 3 (SU)
theorem SV (T:Txt w K mg):cC P w K mg base "Making" "left_let" 5 m_Making_left_let:=T.m_Making_left_let.ok (k:=4) zjI λ_ _ _ _ _ _ _ hr=>by
 exact "y i2 p n"
 refine kR (N:=["self", "step", "atoms"]) rfl (by exact "2zdE") rfl (by decide +kernel) ?_ ?_
 exact "djg ozjG G n f h N u g r x SwX G r czjI.nd y BzaG I Y G f h N u g vzjE n f h N u g r"
 rfl
 exact "z H P n L n f h N u g n f h N u g n Z r"
noncomputable def tP (c:Str):Option (Al):=if c = "Making" then some m_Making_left_let else none
def ztz (T:Txt w K mg) {c:Str} {m:Al} (h:tP c=some m):cC P w K mg base c "left_let" 5 m:=by
 unfold tP at h
 by_cases e0:c = "Making"
 ·rw [zx e0] at h;cases h;rw [e0];exact (SV T).mono (by decide)
 rw [zH e0] at h
 cases h
theorem FR:au ["kinds", "values", "kind", "value"] ["kinds", "values"] (zF Fg):=by exact "1"
noncomputable def z_:Aj :=
  (jf (nR (ze (zc 0) (ze (zc 1) zk))) (g2 2 3)
  (zT (jF (mB (zh jN (zc 2) (As "any"))) (mB (zh jN (zc 2) (zq mG (ze (zc 3) zk)))))
  yw
  zX))
noncomputable def og:Al:=zL 2 4 (z_)
def ztA (T:Txt w K mg):bg P w K mg base "check_kinds" 2 og:=T.f_check_kinds.ok (k:=1) FR λ_ _ _ _ _ _ _ hr=>by
 exact "z q W n G n N r"
 exact (pU 2 3 rfl FR.nd)
 exact "z k dzai aza0 jzbu Z L dzbs jzbu Z ezjz n b3 r z R M"
theorem SW:au ["number"] ["number"] (zF Fh):=by exact "1"
noncomputable def FT:Aj :=
  (zP (pM j8 j8 (yg nL (Ar 1000000000000000000)) (zc 0) (Ar 1000000000000000000)))
noncomputable def Aq:Al:=zL 1 1 (FT)
def ztC (T:Txt w K mg):bg P w K mg base "in_bounds" 1 Aq:=T.f_in_bounds.ok (k:=0) SW λ_ _ _ _ _ _ _ hr=>by
 exact "z H"
 refine MP zaD zaD ?_ ?_ ?_
 exact "0"
 exact (xk T.c_NUMBER_BOUND)
 exact "G"
 exact (xk T.c_NUMBER_BOUND)
theorem SX:au ["number"] ["number"] (zF Fi):=by exact "1"
noncomputable def FU:Aj :=
  (zP (zc 0))
noncomputable def FV:Aj :=
  zu (zT (kC (mB (zq Aq (ze (zc 0) zk))))
  yw
  zX) (FU)
noncomputable def qB:Al:=zL 1 1 (FV)
def zjN (T:Txt w K mg):bg P w K mg base "within_bounds" 2 qB:=T.f_within_bounds.ok (k:=1) SX λ_ _ _ _ _ _ _ hr=>by
 exact "y k dzdf djL eztC n G r z R M z H G"
theorem SY:au ["values"] ["values"] (zF Fj):=by exact "1"
noncomputable def FW:Aj :=
  (zP (zq qB (ze (zh yH (zh zm (zc 0) (Ar 0)) (zh zm (zc 0) (Ar 1))) zk)))
noncomputable def tQ:Al:=zL 1 1 (FW)
def S0 (T:Txt w K mg):bg P w K mg base "tell_add" 3 tQ:=T.f_tell_add.ok (k:=2) SY λ_ _ _ _ _ _ _ hr=>by
 exact "z H ezjN n mjM f h G u g f h G u g r"
theorem S5:au ["values"] ["values"] (zF Fn):=by exact "1"
noncomputable def FX:Aj :=
  (zP (zq qB (ze (zh pN (zh zm (zc 0) (Ar 0)) (zh zm (zc 0) (Ar 1))) zk)))
noncomputable def tR:Al:=zL 1 1 (FX)
def S6 (T:Txt w K mg):bg P w K mg base "tell_sub" 3 tR:=T.f_tell_sub.ok (k:=2) S5 λ_ _ _ _ _ _ _ hr=>by
 exact "z H ezjN n mzeE f h G u g f h G u g r"
theorem S7:au ["truth"] ["truth"] (zF Fo):=by exact "1"
noncomputable def S8:Aj :=
  (zP (C3 (mB (zc 0)) (Ar 1) (Ar 0)))
noncomputable def tS:Al:=zL 1 1 (S8)
def zjQ (T:Txt w K mg):bg P w K mg base "number_of" 1 tS:=T.f_number_of.ok (k:=0) S7 λ_ _ _ _ _ _ _ hr=>by
 exact "z H UzoG djL G u u"
theorem S9:au ["values"] ["values"] (zF Fp):=by exact "1"
noncomputable def S_:Aj :=
  (zP (zq tS (ze (zh j8 (zh zm (zc 0) (Ar 0)) (zh zm (zc 0) (Ar 1))) zk)))
noncomputable def Aw:Al:=zL 1 1 (S_)
def Ta (T:Txt w K mg):bg P w K mg base "tell_less" 2 Aw:=T.f_tell_less.ok (k:=1) S9 λ_ _ _ _ _ _ _ hr=>by
 exact "z H ezjQ n"
 refine wB zaD ?_ ?_
 exact "f h G u g f h G u g r"
theorem Tb:au ["values"] ["values"] (zF Fq):=by exact "1"
noncomputable def Tc:Aj :=
  (zP (zq tS (ze (zh nY (zh zm (zc 0) (Ar 0)) (zh zm (zc 0) (Ar 1))) zk)))
noncomputable def Ax:Al:=zL 1 1 (Tc)
def Td (T:Txt w K mg):bg P w K mg base "tell_same" 2 Ax:=T.f_tell_same.ok (k:=1) Tb λ_ _ _ _ _ _ _ hr=>by
 exact "z H ezjQ n Fze5 f h G u g f h G u g r"
noncomputable def mH (y:Str):Option (Al):=if y = "tell_add" then some tQ else if y = "tell_sub" then some tR else if y = "tell_less" then some Aw else if y = "tell_same" then some Ax else none
def Te (T:Txt w K mg) {y:Str}{m:Al}(h:mH y=some m):bg P w K mg base y 3 m:=by
 unfold mH at h
 by_cases e0:y = "tell_add"
 ·rw [zx e0] at h;cases h;rw [e0];exact (S0 T).mono (by decide)
 rw [zH e0] at h
 by_cases e1:y = "tell_sub"
 ·rw [zx e1] at h;cases h;rw [e1];exact (S6 T).mono (by decide)
 rw [zH e1] at h
 by_cases e2:y = "tell_less"
 ·rw [zx e2] at h;cases h;rw [e2];exact (Ta T).mono (by decide)
 rw [zH e2] at h
 by_cases e3:y = "tell_same"
 ·rw [zx e3] at h;cases h;rw [e3];exact (Td T).mono (by decide)
 rw [zH e3] at h
 cases h
theorem Tf:au ["thing"] ["thing"] (zF Ft):=by exact "1"
noncomputable def FY:Aj :=
  (zP (jz zk))
noncomputable def FZ:Aj :=
  zu (zT (mB (zq (jS isT) (ze (zc 0) (ze (mC (.ty "dict")) zk))))
  yw
  zX) (FY)
noncomputable def F1:Aj :=
  zu (zT (mB (zq (jS isT) (ze (zc 0) (ze (mC (.ty "tuple")) zk))))
  yw
  zX) (FZ)
noncomputable def tT:Al:=zL 1 1 (F1)
def ztS (T:Txt w K mg):bg P w K mg base "things_within" 1 tT:=T.f_things_within.ok (k:=0) Tf λ_ _ _ _ _ _ _ hr=>by
 exact "y k djL t n G n O r z R M y k djL t n G n"
 exact (wR T.b_dict Dt)
 exact "r z R M z H djY r"
theorem zdR:au ["thing", "found", "place"] ["thing"] (zF Fu):=by exact "1"
noncomputable def Ti:Aj :=
  (zP (zc 1))
noncomputable def Tj:Aj :=
  zu (sO (mB (zh j8 (zc 2) (zq yx (ze (zc 1) zk))))
  (zu (jb (jh xi (zc 1) (zq tT (ze (zh zm (zc 1) (zc 2)) zk))))
  (pS 2 iM (Ar 1)))) (Ti)
noncomputable def Tn:Aj :=
  zu (zJ 2 (Ar 0)) (Tj)
noncomputable def To:Aj :=
  zu (zJ 1 (jz (ze (zc 0) zk))) (Tn)
noncomputable def Ay:Al:=zL 1 3 (To)
def ztX (T:Txt w K mg):bg P w K mg base "all_within" 2 Ay:=T.f_all_within.ok (k:=1) zdR λ_ _ _ _ _ _ _ hr=>by
 exact "y i1 djY n G r czdR.nd y i2 u czdR.nd y Q DzaD Z s n N r y dwu azps N eztS n f h N Z g r z"
 refine Dl 2 Dk ?_ zdR.nd
 exact "u z H N"
theorem Tp:au ["value"] ["value"] (zF Fv):=by exact "1"
noncomputable def Tq:Aj :=
  (zP (zq yx (ze (zq Ay (ze (zc 0) zk)) zk)))
noncomputable def Az:Al:=zL 1 1 (Tq)
def zt0 (T:Txt w K mg):bg P w K mg base "parts" 3 Az:=T.f_parts.ok (k:=2) Tp λ_ _ _ _ _ _ _ hr=>by
 exact "z H s n eztX n G r r"
theorem zf2:au ["self", "values", "tell", "told"] ["self", "values"] (zF zfu):=by exact "1"
noncomputable def qC:Aj :=
  (zP (zc 3))
noncomputable def qD:Aj :=
  zu (zT (mB (zh kI (zq Az (ze (zc 3) zk)) (Ar 60)))
  yw
  zX) (qC)
noncomputable def qE:Aj :=
  zu (zJ 3 (xg mH (zc 2) (ze (zc 1) zk))) (qD)
noncomputable def qF:Aj :=
  zu (zJ 2 (zh zm (yg (kM jU jV) (yg (aS "word" insOf excOf) (zc 0))) (Ar 1))) (qE)
noncomputable def qG:Aj :=
  zu (jb (zq og (ze (zh zm (yg (kM jU jV) (yg (aS "word" insOf excOf) (zc 0))) (Ar 0)) (ze (zc 1) zk)))) (qF)
noncomputable def m_Op_answer:Al:=zL 2 4 (qG)
def Tr (T:Txt w K mg):cC P w K mg base "Op" "answer" 4 m_Op_answer:=T.m_Op_answer.ok (k:=3) zf2 λ_ _ _ _ _ _ _ hr=>by
 exact "y dwu eztA n f h JzeP wT.d_word G u g n N r y i2 f h JzeP wT.d_word G u g czf2.nd y i3"
 refine Np (λy m h=>Te T h) ?_ (hr.mono (by decide)) zK ?_
 exact "Z n N r czf2.nd y k DzhA ezt0 n b3 r"
 exact (xk T.c_MOST_PARTS)
 exact "z R M z H b3"
noncomputable def AA (c:Str):Option (Al):=if c = "Op" then some m_Op_answer else none
def zt7 (T:Txt w K mg) {c:Str} {m:Al} (h:AA c=some m):cC P w K mg base c "answer" 4 m:=by
 unfold AA at h
 by_cases e0:c = "Op"
 ·rw [zx e0] at h;cases h;rw [e0];exact (Tr T).mono (by decide)
 rw [zH e0] at h
 cases h
theorem Ts:au ["self", "word"] ["self", "word"] (zF zfv):=by exact "1"
noncomputable def qH:Aj :=
  (sFld "many" insOf (zc 0) (zq yx (ze (zh zm (yg (kM jU jV) (zc 1)) (Ar 0)) zk)))
noncomputable def qI:Aj :=
  zu (sFld "word" insOf (zc 0) (zc 1)) (qH)
noncomputable def oh:Al:=zL 2 2 (qI)
def zt9 (T:Txt w K mg):g9 P w K mg base "Op" 1 oh:=T.n_Op.ok (k:=0) Ts λ_ _ _ _ _ _ _ hr=>by
 exact "y ET.d_word G N z ET.d_many G s n f h JzeP N u g r"
theorem Tt:au ["word"] ["word"] (zF Fw):=by exact "1"
noncomputable def qJ:Aj :=
  (zP (zq (bI "Op" oh) (ze (zc 0) zk)))
noncomputable def qK:Aj :=
  zu (zT (mB (yg (hV true jU jV zfE) (zc 0)))
  yw
  zX) (qJ)
noncomputable def wG:Al:=zL 1 1 (qK)
def zub (T:Txt w K mg):bg P w K mg base "op_of" 3 wG:=T.f_op_of.ok (k:=2) Tt λ_ _ _ _ _ _ _ hr=>by
 exact "y k Jzpr G z R M z H vzt9 n G r"
theorem Tu:au ["self", "step"] ["self", "step"] (zF zdF):=by exact "1"
noncomputable def Tv:Aj :=
  (zP (y3 "answer" AA (zq wG (ze (zh zm (zc 1) (Ar 2)) zk)) (ze (zq yW (ze (y8 (yD (y3 "things_at" qA (zc 0) (ze (zh zm (zc 1) (Ar 3)) zk))) (yg (aS "value" insOf excOf) (zc 0))) zk)) zk)))
noncomputable def m_Making_answer_ahead:Al:=zL 2 2 (Tv)
theorem Tw (T:Txt w K mg):cC P w K mg base "Making" "answer_ahead" 5 m_Making_answer_ahead:=T.m_Making_answer_ahead.ok (k:=4) Tu λ_ _ _ _ _ _ _ hr=>by
 exact "z H ozt7 ezub n f h N u g r n p n"
 refine kR (N:=["self", "step"]) rfl (by exact "2zdF") rfl (by decide +kernel) ?_ ?_
 exact "djg ozjG G n f h N u g r x wT.d_value G r r"
noncomputable def tU (c:Str):Option (Al):=if c = "Making" then some m_Making_answer_ahead else none
def Tx (T:Txt w K mg) {c:Str} {m:Al} (h:tU c=some m):cC P w K mg base c "answer_ahead" 5 m:=by
 unfold tU at h
 by_cases e0:c = "Making"
 ·rw [zx e0] at h;cases h;rw [e0];exact (Tw T).mono (by decide)
 rw [zH e0] at h
 cases h
theorem zjU:au ["self", "end", "place", "thing", "first", "second"] ["self", "end", "place"] (zF zfw):=by exact "1"
noncomputable def Tz:Aj :=
  yw
noncomputable def TC:Aj :=
  zu yw (Tz)
noncomputable def TH:Aj :=
  zu yw (TC)
noncomputable def TJ:Aj :=
  zu yw (TH)
noncomputable def TK:Aj :=
  zu (zT (mB (zh ya (zh zm (zc 1) (Ar 0)) (As "give")))
  (zP (yd (ze (yd zk) (ze (yd (ze (As "give") (ze (y3 "atom" kY (zc 3) zk) zk))) zk))))
  zX) (TJ)
noncomputable def TL:Aj :=
  zu (zJ 3 (zq qz (ze (zh zm (zc 1) (Ar 1)) (ze (yg (aS "things" insOf excOf) (zc 0)) zk)))) (TK)
noncomputable def TM:Aj :=
  zu (zT (mB (zh ya (zh zm (zc 1) (Ar 0)) (As "go")))
  yw
  zX) (TL)
noncomputable def TQ:Aj :=
  zu (zT (mB (zh ya (zh zm (zc 1) (Ar 0)) (As "fail")))
  yw
  zX) (TM)
noncomputable def m_Making_made_end:Al:=zL 3 6 (TQ)
def TV (T:Txt w K mg):cC P w K mg base "Making" "made_end" 4 m_Making_made_end:=T.m_Making_made_end.ok (k:=3) zjU λ_ _ _ _ _ _ _ hr=>by
 exact "y k jyL f h N u g L z R M y k jyL f h N u g L z R M y i3 ezjF n f h N u g n Y G r czjU.nd y k jyL f h N u g L z H P n P r n P n L n SzK b3 r r M y R y R y R z R"
noncomputable def AB (c:Str):Option (Al):=if c = "Making" then some m_Making_made_end else none
def zup (T:Txt w K mg) {c:Str} {m:Al} (h:AB c=some m):cC P w K mg base c "made_end" 4 m:=by
 unfold AB at h
 by_cases e0:c = "Making"
 ·rw [zx e0] at h;cases h;rw [e0];exact (TV T).mono (by decide)
 rw [zH e0] at h
 cases h
theorem zcJ:au ["self", "block", "place", "left", "step", "fault", "behind"] ["self", "block", "place"] (zF zfx):=by exact "1"
noncomputable def TY:Aj :=
  (zP (yd (ze (zh yH (zq yW (ze (zc 3) zk)) (zh zm (zc 6) (Ar 0))) (ze (zh zm (zc 6) (Ar 1)) zk))))
noncomputable def TZ:Aj :=
  zu (zJ 6 (y3 "made_end" AB (zc 0) (ze (zh zm (zc 1) (Ar 1)) (ze (zc 2) zk)))) (TY)
noncomputable def T1:Aj :=
  zu (jf (yD (zh zm (zc 1) (Ar 0))) (gN 4)
  (zT (mB (zh ya (zh zm (zc 4) (Ar 0)) (As "call")))
  (zu yw
  yw)
  (zT (mB (zh (yt false) (zh zm (zc 4) (Ar 1)) (yg (aS "later" insOf excOf) (zc 0))))
  (jb (jh js (zc 3) (y3 "left_let" tP (zc 0) (ze (zc 4) zk))))
  (n5 5 "Fault" (yg (aS "things" insOf excOf) (zc 0)) (zh zm (zc 4) (Ar 1)) (gO "Known" iU (gI "answer_ahead" tU (zc 0) (ze (zc 4) zk)))
  yw)))) (TZ)
noncomputable def T3:Aj :=
  zu (zJ 3 (jz zk)) (T1)
noncomputable def m_Making_made_block:Al:=zL 3 7 (T3)
def T4 (T:Txt w K mg):cC P w K mg base "Making" "made_block" 6 m_Making_made_block:=T.m_Making_made_block.ok (k:=5) zcJ λ_ _ _ _ _ _ _ hr=>by
 exact "y i3 djY r czcJ.nd y q djg f h N u g"
 exact (wD 4 zcJ.nd)
 exact "z k jyL f h b4 u g L y R z R z k jza4 f h b4 u g wT.d_later G z dwu azak b3 oztz G n b4 r z"
 refine QO 5 (zo hr) T.x_Fault.tr ?_ ?_ ?_ ?_ zcJ.nd
 exact "Y G f h b4 u g"
 refine QN (zfU T) (hr.mono (by decide)) ?_
 refine NU (λc m h=>Tx T h) ?_ (hr.mono (by decide)) ?_
 exact "G n b4 r"
 intro _
 exact "z R y i6 ozup G n f h N u g n Z r czcJ.nd z H P n mjM p n b3 r f h b6 u g n f h b6 u g r"
noncomputable def AD (c:Str):Option (Al):=if c = "Making" then some m_Making_made_block else none
def zuv (T:Txt w K mg) {c:Str} {m:Al} (h:AD c=some m):cC P w K mg base c "made_block" 6 m:=by
 unfold AD at h
 by_cases e0:c = "Making"
 ·rw [zx e0] at h;cases h;rw [e0];exact (T4 T).mono (by decide)
 rw [zH e0] at h
 cases h
theorem zjV:au ["ring", "key", "function", "form", "making"] ["ring", "key", "function", "form"] (zF Fx):=by exact "1"
noncomputable def T7:Aj :=
  (zP (yd (ze (y3 "name_for" tO (zc 0) (ze (zc 1) zk)) (ze (zq n9 (ze (zc 2) (ze (zh zm (zc 3) (Ar 1)) zk))) (ze (y3 "made_block" AD (zc 4) (ze (zh zm (zc 2) (Ar 2)) (ze (Ar 0) zk))) zk)))))
noncomputable def T8:Aj :=
  zu (zJ 4 (zq (bI "Making" qy) (ze (zc 0) (ze (zc 2) (ze (zc 3) (ze (zh zm (zc 1) (Ar 2)) zk)))))) (T7)
noncomputable def tV:Al:=zL 4 5 (T8)
def zuy (T:Txt w K mg):bg P w K mg base "made_function" 8 tV:=T.f_made_function.ok (k:=7) zjV λ_ _ _ _ _ _ _ hr=>by
 exact "y i4 vzti n G n Z n b3 n f h N u g r czjV.nd z H P n ozjD G n N r n ezdI n Z n f h b3 u g r n ozuv b4 n f h Z u g n u r r"
theorem zbj:au ["program", "parting", "known", "limit", "row", "functions", "forms", "ring", "made", "key"] ["program", "parting", "known", "limit"] (zF Fy):=by exact "1"
noncomputable def T9:Aj :=
  (zP (yd (ze (zq yW (ze (zc 8) zk)) (ze (zq yW (ze (yg (aS "met" insOf excOf) (zc 7)) zk)) zk))))
noncomputable def T_:Aj :=
  zu (sO (mB (zh j8 (zq yx (ze (zc 8) zk)) (zq yx (ze (yg (aS "met" insOf excOf) (zc 7)) zk))))
  (zu (zJ 9 (zh (aP zm) (yg (aS "met" insOf excOf) (zc 7)) (zq yx (ze (zc 8) zk))))
  (jb (jh js (zc 8) (zq tV (ze (zc 7) (ze (zc 9) (ze (zh (aP zm) (zc 5) (zh (aP zm) (zc 9) (Ar 0))) (ze (zh (aP zm) (zc 6) (yd (ze (zh (aP zm) (zc 9) (Ar 0)) (ze (zh (aP zm) (zc 9) (Ar 1)) zk)))) zk))))))))) (T9)
noncomputable def Ua:Aj :=
  zu (zJ 8 (jz zk)) (T_)
noncomputable def Ub:Aj :=
  zu (jb (y3 "name_for" tO (zc 7) (ze (yd (ze (zh (aP zm) (zh (aP zm) (zc 1) (Ar 0)) (Ar 0)) (ze (zh (aP zm) (zh (aP zm) (zc 1) (Ar 0)) (Ar 1)) (ze (zc 2) zk)))) zk))) (Ua)
noncomputable def Uc:Aj :=
  zu (zJ 7 (zq (bI "KeyRing" qx) (ze (zc 3) zk))) (Ub)
noncomputable def Ud:Aj :=
  zu (zJ 6 (zq x9 (ze (zc 1) zk))) (Uc)
noncomputable def Ue:Aj :=
  zu (zJ 5 (zq qt (ze (zc 0) zk))) (Ud)
noncomputable def Ug:Aj :=
  zu (zT (mB (zh j1 (zc 4) (mC .non)))
  yw
  zX) (Ue)
noncomputable def Uh:Aj :=
  zu (zJ 4 (zq qw (ze (zc 0) (ze (zc 1) zk)))) (Ug)
noncomputable def fN:Al:=zL 4 10 (Uh)
def zuI (T:Txt w K mg):bg P w K mg base "make" 9 fN:=T.f_make.ok (k:=8) zbj λ_ _ _ _ _ _ _ hr=>by
 exact "y i4 ezsL n G n N r czbj.nd y k Dza6 b4 cwz z R M y i5 ezfJ n G r czbj.nd y i6 ezsP n N r czbj.nd y i7 vzsU n b3 r czbj.nd y dwu ozjD b7 n P n f l f l N u g u g n f l f l N u g u g n Z r r y i8 djY r czbj.nd y Q DzaD s n b8 r s n wT.d_met b7 r y i9 f l wT.d_met b7 s n b8 r g czbj.nd z dwu azak b8 ezuy n b7 n b9 n f l b5 f l b9 u g g n f l b6 P n f l b9 u g n f l b9 u g r g r z H P n p n b8 r n p n wT.d_met b7 r r"
theorem Ui:au ["function", "held"] ["function", "held"] (zF zfy):=by exact "1"
noncomputable def Uj:Aj :=
  (zP (zq qu (ze (y8 (yD (zh (aP zm) (zc 0) (Ar 1))) (zh (cA (yt false) false) (yd (ze (zh (aP zm) (zc 1) (Ar 0)) (ze (zc 0) zk))) (zc 2))) zk)))
noncomputable def tX:Al:=zL 2 2 (Uj)
theorem zuL (T:Txt w K mg):bg P w K mg base "held_bits" 2 tX:=T.f_held_bits.ok (k:=1) Ui λ_ _ _ _ _ _ _ hr=>by
 exact "z H ezjr n"
 refine kR (N:=["function", "held"]) rfl (by exact "2zfy") rfl (by decide +kernel) ?_ ?_
 exact "djg f l G u g x V P n f l N u g n G r Z r"
theorem F3:au ["self", "program", "held", "function"] ["self", "program", "held"] (zF zfz):=by exact "1"
noncomputable def Uk:Aj :=
  (jf (yD (zc 1)) (gN 3)
  (jD (yg (aS "bits_by_name" insOf excOf) (zc 0)) (zh zm (zc 3) (Ar 0)) (zq tX (ze (zc 3) (ze (yg (aS "pairs" insOf excOf) (zc 0)) zk)))))
noncomputable def Ul:Aj :=
  zu (sFld "bits_by_name" insOf (zc 0) kO) (Uk)
noncomputable def Um:Aj :=
  zu (sFld "pairs" insOf (zc 0) (zq iS (ze (zc 2) zk))) (Ul)
noncomputable def qL:Al:=zL 3 4 (Um)
def zuP (T:Txt w K mg):g9 P w K mg base "Holding" 3 qL:=T.n_Holding.ok (k:=2) F3 λ_ _ _ _ _ _ _ hr=>by
 exact "y ET.d_pairs G ezbH n Z r y ET.d_bits_by_name G cza3 z q djg N"
 exact (wD 3 F3.nd)
 exact "z BzaG I wT.d_bits_by_name G f h b3 u g ezuL n b3 n wT.d_pairs G r"
 rfl
theorem Uo:au ["self", "name", "step", "later"] ["self", "name", "step", "later"] (zF zfA):=by exact "1"
noncomputable def Up:Aj :=
  (zP (zh (cA (yt false) false) (yd (ze (zc 1) (ze (zh (aP zm) (zc 2) (Ar 1)) zk))) (yg (aS "pairs" insOf excOf) (zc 0))))
noncomputable def Uq:Aj :=
  zu (zT (wA (mB (zh ya (zh (aP zm) (zc 2) (Ar 0)) (As "call"))) (mB (zh jN (zq mD (ze (zq mF (ze (zc 2) zk)) (ze (zc 3) zk))) (Ar 0))))
  (zP (mC (.bl true)))
  zX) (Up)
noncomputable def m_Holding_makes_later:Al:=zL 4 4 (Uq)
def Ur (T:Txt w K mg):cC P w K mg base "Holding" "makes_later" 3 m_Holding_makes_later:=T.m_Holding_makes_later.ok (k:=2) Uo λ_ _ _ _ _ _ _ hr=>by
 exact "y k dzai azde jyL f l Z u g L dzeA jzbu ezjs n ezju n Z r n b3 r u z H czb4 M z H V P n N n f l Z u g r wT.d_pairs G"
noncomputable def qM (c:Str):Option (Al):=if c = "Holding" then some m_Holding_makes_later else none
def zuU (T:Txt w K mg) {c:Str} {m:Al} (h:qM c=some m):cC P w K mg base c "makes_later" 3 m:=by
 unfold qM at h
 by_cases e0:c = "Holding"
 ·rw [zx e0] at h;cases h;rw [e0];exact (Ur T).mono (by decide)
 rw [zH e0] at h
 cases h
theorem zbN:au ["self", "function", "bits", "later", "steps", "goals", "line", "aim"] ["self", "function", "bits"] (zF zfB):=by exact "1"
noncomputable def Us:Aj :=
  (zP (yd (ze (zh zm (zc 1) (Ar 0)) (ze (zc 2) (ze (zq yW (ze (zc 4) zk)) (ze (zq yW (ze (zc 5) zk)) zk))))))
noncomputable def Ut:Aj :=
  zu (jf (yD (zq n_ (ze (zh zm (zc 1) (Ar 2)) zk))) (gN 6)
  (zu (zJ 7 (zq iT (ze (zc 6) zk)))
  (zu (zT (mB (zh j1 (zc 7) (mC .non)))
  yw
  zX)
  (zT (jF (mB (zq mE (ze (zc 6) zk))) (mB (y3 "makes_later" qM (zc 0) (ze (zh zm (zc 1) (Ar 0)) (ze (zc 6) (ze (zc 3) zk))))))
  (zu (jb (jh js (zc 4) (zh zm (zc 6) (Ar 1))))
  (jD (zc 3) (zh zm (zc 6) (Ar 1)) (mC (.bl true))))
  zX)))) (Us)
noncomputable def Uu:Aj :=
  zu (zJ 5 (jz zk)) (Ut)
noncomputable def Uv:Aj :=
  zu (zJ 4 (jz zk)) (Uu)
noncomputable def Uw:Aj :=
  zu (zJ 3 (zq iS (ze (zq n9 (ze (zc 1) (ze (zc 2) zk))) zk))) (Uv)
noncomputable def m_Holding_best_form:Al:=zL 3 8 (Uw)
def Ux (T:Txt w K mg):cC P w K mg base "Holding" "best_form" 4 m_Holding_best_form:=T.m_Holding_best_form.ok (k:=3) zbN λ_ _ _ _ _ _ _ hr=>by
 exact "y i3 ezbH n ezdI n N n Z r r czbN.nd y i4 djY r czbN.nd y i5 djY r czbN.nd y q djg ezfM n f h N u g r"
 exact (wD 6 zbN.nd)
 exact "y i7 ezfN n b6 r czbN.nd y k Dza6 b7 cwz z R M z k dzai aza0 djL ezjt n b6 r dzbs djL ozuU G n f h N u g n b6 n b3 r y dwu azak b4 f h b6 u g z BzaG I b3 f h b6 u g czb4"
 rfl
 exact "M z H P n f h N u g n Z n p n b4 r n p n b5 r r"
noncomputable def tY (c:Str):Option (Al):=if c = "Holding" then some m_Holding_best_form else none
def zu1 (T:Txt w K mg) {c:Str} {m:Al} (h:tY c=some m):cC P w K mg base c "best_form" 4 m:=by
 unfold tY at h
 by_cases e0:c = "Holding"
 ·rw [zx e0] at h;cases h;rw [e0];exact (Ux T).mono (by decide)
 rw [zH e0] at h
 cases h
theorem F4:au ["block", "aims"] ["block"] (zF zdG):=by exact "1"
noncomputable def Uy:Aj :=
  (zP (zq yW (ze (qk (yD (zc 1)) (mB (zh j1 (zc 0) (mC .non))) (zc 0)) zk)))
noncomputable def Uz:Aj :=
  zu (zJ 1 (y8 (yD (zq n_ (ze (zc 0) zk))) (zq iT (ze (zc 0) zk)))) (Uy)
noncomputable def AE:Al:=zL 1 2 (Uz)
theorem zu4 (T:Txt w K mg):bg P w K mg base "aims_of" 2 AE:=T.f_aims_of.ok (k:=1) F4 λ_ _ _ _ _ _ _ hr=>by
 exact "y"
 refine Pw 1 (N:=["block", "aims"]) rfl (by exact "2zdG") rfl (by decide +kernel) ?_ ?_ F4.nd rfl (by exact "5") (by exact "6") (by rfl)
 exact "djg ezfM n G r x CzfN n G r z H p n"
 refine PQ (N:=["block", "aims"]) rfl (by exact "3zdG") rfl (by decide +kernel) ?_ ?_ ?_
 exact "djg N x Dza6 G cwz x G r"
theorem UA:au ["function", "goals"] ["function", "goals"] (zF zfC):=by exact "1"
noncomputable def UB:Aj :=
  (zP (xP (nR (ze (zq AE (ze (zh zm (zc 0) (Ar 2)) zk)) (ze (zc 1) zk))) (yd (ze (zh zm (zc 0) (Ar 0)) (ze (zc 1) zk)))))
noncomputable def qN:Al:=zL 2 2 (UB)
theorem zu7 (T:Txt w K mg):bg P w K mg base "aimed_pairs" 3 qN:=T.f_aimed_pairs.ok (k:=2) UA λ_ _ _ _ _ _ _ hr=>by
 exact "z H"
 refine PF (N:=["function", "goals"]) rfl (by exact "3zfC") rfl (by decide +kernel) ?_ ?_
 exact "W n ezu4 n f h G u g r n N r x P n f h G u g n N r"
theorem w8:au ["program", "bits", "held", "functions", "holding", "met", "marks", "forms", "pair", "function", "form", "aimed"] ["program", "bits", "held"] (zF Fz):=by exact "1"
noncomputable def UC:Aj :=
  (zP (zq yW (ze (zc 7) zk)))
noncomputable def UD:Aj :=
  zu (sO (mB (zh j8 (zq yx (ze (zc 7) zk)) (zq yx (ze (zc 5) zk))))
  (zu (zJ 8 (zh (aP zm) (zc 5) (zq yx (ze (zc 7) zk))))
  (zu (zJ 9 (zh (aP zm) (zc 3) (zh (aP zm) (zc 8) (Ar 0))))
  (zu (zJ 10 (y3 "best_form" tY (zc 4) (ze (zc 9) (ze (zh (aP zm) (zc 8) (Ar 1)) zk))))
  (zu (jb (jh js (zc 7) (zc 10)))
  (jf (yD (zq qN (ze (zc 9) (ze (zh (aP zm) (zc 10) (Ar 3)) zk)))) (gN 11)
  yw)))))) (UC)
noncomputable def UE:Aj :=
  zu (zJ 7 (jz zk)) (UD)
noncomputable def UG:Aj :=
  zu (zJ 6 (zq iS (ze (zc 5) zk))) (UE)
noncomputable def UH:Aj :=
  zu (zJ 5 (jz (ze (yd (ze (zh (aP zm) (zh (aP zm) (zc 0) (Ar 0)) (Ar 0)) (ze (zc 1) zk))) zk))) (UG)
noncomputable def UI:Aj :=
  zu (zJ 4 (zq (bI "Holding" qL) (ze (zc 0) (ze (zc 2) zk)))) (UH)
noncomputable def UJ:Aj :=
  zu (zJ 3 (zq qt (ze (zc 0) zk))) (UI)
noncomputable def tZ:Al:=zL 3 12 (UJ)
def zvf (T:Txt w K mg):bg P w K mg base "best" 5 tZ:=T.f_best.ok (k:=4) w8 λ_ _ _ _ _ _ _ hr=>by
 exact "y i3 ezfJ n G r cw8.nd y i4 vzuP n G n Z r cw8.nd y i5 djY n P n f l f l G u g u g n N r r cw8.nd y i6 ezbH n b5 r cw8.nd y i7 djY r cw8.nd y Q DzaD s n b7 r s n b5 r y i8 f l b5 s n b7 r g cw8.nd y i9 f l b3 f l b8 u g g cw8.nd y i10 ozu1 b4 n b9 n f l b8 u g r cw8.nd y dwu azak b7 b10 z q djg ezu7 n b9 n f l b10 u g r"
 exact (wD 11 w8.nd)
 exact "z R z H p n b7 r"
theorem F5:au ["_law_made"] ["_law_made"] (zF zfD):=by exact "1"
noncomputable def UK (mr:Al):Aj :=
  (zP (C1 (zq (jS isT) (ze (zc 0) (ze (mC (.ty "str")) zk))) (kD (zq (jS isT) (ze (zc 0) (ze (mC (.ty "int")) zk))) (C2 (zq (jS isT) (ze (zc 0) (ze (mC (.ty "bool")) zk)))))))
noncomputable def UL (mr:Al):Aj :=
  zu (zT (mB (zq (jS isT) (ze (zc 0) (ze (mC (.ty "tuple")) zk))))
  (zP (zq xO (ze (y8 (yD (zc 0)) (zq mr (ze (zc 0) zk))) zk)))
  zX) (UK mr)
noncomputable def qO (mr:Al):Al:=zL 1 1 (UL mr)
theorem UM (T:Txt w K mg) {k:Nat} (hk:1<=k) {mr:Al} (FA:bg P w K mg base "_law_plain" k mr):bg P w K mg base "_law_plain" (k+1) (qO mr):=T.f__law_plain.ok (k:=k+0) F5 λ_ _ _ _ _ _ _ hr=>by
 exact "y k djL t n G n O r z H"
 refine yT (Pz rfl) T.b_all PB ?_
 exact "n"
 refine kR (N:=["_law_made"]) rfl (by exact "2zfD") rfl (by decide +kernel) ?_ ?_
 exact "djg G x X n G r r M z H azoE t n G n"
 exact (wR T.b_str xm)
 exact "r dzeB azht t n G n"
 exact (wR T.b_int xl)
 exact "r dzeB dzoF t n G n"
 exact (wR T.b_bool NZ)
 exact "r"
noncomputable def iV:Nat->Al
 | 0=>zL 1 1 yw
 | n+1=>qO (iV n)
theorem F7 (T:Txt w K mg):∀n,bg P w K mg base "_law_plain" (1+1+1*n) (iV n)
 | 0=>T.f__law_plain.ok (k:=1) F5 λf aX A outer s H E hr=>D5
 | n+1=>(UM T (by omega) (F7 T n)).mono (by omega)
theorem jH:au ["_law_script", "_law_many", "_law_params", "_law_bits", "_law_names", "_law_steps_here", "_law_last", "_law_things", "_law_values", "_law_k", "_law_param", "_law_due", "_law_step", "_law_atoms", "_law_later", "_law_name_here", "_law_program", "_law_made"] ["_law_script"] (zF zbF):=by exact "1"
noncomputable def UN:Aj :=
  (zP (zh ya (zh zm (zc 17) (Ar 0)) (yd (ze (yd (ze (As "q0") (ze (zc 14) (ze (yd (ze (zq yW (ze (zc 11) zk)) (ze (yd (ze (As "give") (ze (zq n6 (ze (zc 6) (ze (zc 7) zk))) zk))) zk))) zk)))) zk))))
noncomputable def UO:Aj :=
  zu (zT (mB (zh jN (zh zm (zc 17) (Ar 1)) (yd (ze (yd (ze (zc 15) (ze (zc 3) (ze (zq yW (ze (zc 8) zk)) zk)))) zk))))
  (zP (mC (.bl false)))
  zX) (UN)
noncomputable def UP:Aj :=
  zu (zT (wA (kC (mB (zq (jS isT) (ze (zc 17) (ze (mC (.ty "tuple")) zk))))) (wA (kC (mB (zq (iV 12) (ze (zc 17) zk)))) (mB (zh jN (zq yx (ze (zc 17) zk)) (Ar 2)))))
  (zP (mC (.bl false)))
  zX) (UO)
noncomputable def UQ:Aj :=
  zu (zJ 17 (zq fN (ze (zc 16) (ze (zq tZ (ze (zc 16) (ze (zc 3) (ze (yd zk) zk)))) (ze (zq yW (ze (zc 8) zk)) (ze (zh yH (Ar 1) (zh yS (zq wf (ze (zc 0) (ze (Ar 5) zk))) (Ar 200))) zk)))))) (UP)
noncomputable def UR:Aj :=
  zu (zJ 16 (yd (ze (yd (ze (zc 15) (ze (zq yW (ze (zc 2) zk)) (ze (yd (ze (zq yW (ze (zc 5) zk)) (ze (yd (ze (As "give") (ze (zc 6) zk))) zk))) zk)))) zk))) (UQ)
noncomputable def US:Aj :=
  zu (zJ 15 (zq my (ze (zc 0) (ze (Ar 25) zk)))) (UR)
noncomputable def UT:Aj :=
  zu (zJ 14 (zq yW (ze (sU (ze (zc 2) zk) (mB (zh ya (zh wV (zh wW (zc 5) (zc 0)) (Ar 1)) (Ar 1))) (zc 1)) zk))) (US)
noncomputable def UU:Aj :=
  zu (jf (yD (zc 5)) (gN 12)
  (zu (zJ 13 (zq yW (ze (y8 (yD (zh zm (zc 12) (Ar 3))) (zq n6 (ze (zc 0) (ze (zc 8) zk)))) zk)))
  (zT (jF (mB (zh ya (zh zm (zh zm (zc 13) (Ar 0)) (Ar 0)) (As "is"))) (mB (zh ya (zh zm (zh zm (zc 13) (Ar 1)) (Ar 0)) (As "is"))))
  (jD (zc 7) (zh zm (zc 12) (Ar 1)) (zq qr (ze (zh zm (zc 12) (Ar 2)) (ze (zh zm (zh zm (zc 13) (Ar 0)) (Ar 1)) (ze (zh zm (zh zm (zc 13) (Ar 1)) (Ar 1)) zk)))))
  (jb (jh js (zc 11) (yd (ze (As "let") (ze (zh zm (zc 12) (Ar 1)) (ze (zh zm (zc 12) (Ar 2)) (ze (zc 13) zk)))))))))) (UT)
noncomputable def UW:Aj :=
  zu (zJ 11 (jz zk)) (UU)
noncomputable def UX:Aj :=
  zu (nS (ze (zc 2) zk) (g2 9 10)
  (zT (mB (zh ya (zh wV (zh wW (zc 3) (zc 9)) (Ar 1)) (Ar 0)))
  (zu (jD (zc 7) (zc 10) (zq mz (ze (zh yH (zh iO (zq wf (ze (zc 0) (ze (zh yH (Ar 4) (zc 9)) zk))) (Ar 3)) (zc 9)) zk)))
  (jb (jh js (zc 8) (zh zm (zc 7) (zc 10)))))
  zX)) (UW)
noncomputable def UY:Aj :=
  zu (zJ 8 (jz zk)) (UX)
noncomputable def F9:Aj :=
  zu (zJ 7 kO) (UY)
noncomputable def UZ:Aj :=
  zu (zJ 6 (zq kU (ze (zq wf (ze (zc 0) (ze (Ar 4) zk))) (ze (zc 4) zk)))) (F9)
noncomputable def U0:Aj :=
  zu (zJ 5 (zq x6 (ze (zc 0) (ze (zc 4) zk)))) (UZ)
noncomputable def U3:Aj :=
  zu (zJ 4 (zq mm (ze (zc 2) zk))) (U0)
noncomputable def U4:Aj :=
  zu (zJ 3 (zh yS (zq wf (ze (zc 0) (ze (Ar 3) zk))) (zh pZ (Ar 1) (zc 1)))) (U3)
noncomputable def U5:Aj :=
  zu (zJ 2 (y8 (fY (ze (zc 1) zk)) (zq my (ze (zc 1) (ze (zc 0) zk))))) (U4)
noncomputable def F_:Aj :=
  zu (zJ 1 (zh yS (zq wf (ze (zc 0) (ze (Ar 2) zk))) (Ar 7))) (U5)
noncomputable def Ga:Al:=zL 1 18 (F_)
theorem zvz (T:Txt w K mg) {f:Addr} {fd:FuncData} (F:dZ K "law" "law" zbF f fd):br P w K mg base (cj P w) 15 f fd ["_law_script"] (g0 K mg Ga):=sQ (k:=14) F jH λaX A outer s H E hr =>by
 exact "y i1 mwC ezba n G n u r u T y"
 refine Ej 2 (M:=["_law_script", "_law_many", "_law_params", "_law_bits", "_law_names", "_law_steps_here", "_law_last", "_law_things", "_law_values", "~_law_k", "_law_param", "_law_due", "_law_step", "_law_atoms", "_law_later", "_law_name_here", "_law_program", "_law_made"]) rfl (by exact "2zbF") (by exact ⟨rfl,by show ∀p∈List.zip (["_law_script", "_law_many", "_law_params", "_law_bits", "_law_names", "_law_steps_here", "_law_last", "_law_things", "_law_values", "~_law_k", "_law_param", "_law_due", "_law_step", "_law_atoms", "_law_later", "_law_name_here", "_law_program", "_law_made"]:Ad) (["_law_script", "_law_many", "_law_params", "_law_bits", "_law_names", "_law_steps_here", "_law_last", "_law_things", "_law_values", "_law_k", "_law_param", "_law_due", "_law_step", "_law_atoms", "_law_later", "_law_name_here", "_law_program", "_law_made"]:Ad),p.1=p.2\/p.1∉(_:Ad);decide +kernel⟩) (by decide +kernel) ?_ ?_ jH.nd rfl (by exact "5") (by exact "6") (by rfl)
 refine NL T.b_range ?_
 exact "n N r x CzfF n N n G r y i3 mwC ezba n G n u r mzh8 u N T y i4"
 refine je (Pf rfl) T.b_list N0 ?_
 exact "n Z r T y i5 ezrW n G n b4 r T y i6 ezfG n ezba n G n u r n b4 r T y i7 cza3 T y i8 djY r T y K n Z r"
 exact (pU 9 10 rfl jH.nd)
 exact "z k jyL mze0 mze1 b3 b9 u u y BzaG I b7 b10 ezjl n mjM mzig ezba n G n mjM u b9 r u b9 r"
 rfl
 exact "z dwu azak b8 f h b7 b10 g M y i11 djY r T y q djg b5"
 exact (wD 12 jH.nd)
 exact "y i13 p n"
 refine kR (N:=["_law_script", "_law_many", "_law_params", "_law_bits", "_law_names", "_law_steps_here", "_law_last", "_law_things", "_law_values", "_law_k", "_law_param", "_law_due", "_law_step", "_law_atoms", "_law_later", "_law_name_here", "_law_program", "_law_made"]) rfl (by exact "2zbF") rfl (by decide +kernel) ?_ ?_
 exact "djg f h b12 u g x Czjm n G n b8 r r T z k dzai aza0 jyL f h f h b13 u g u g L dzbs jyL f h f h b13 u g u g L z BzaG I b7 f h b12 u g ezr5 n f h b12 u g n f h f h b13 u g u g n f h f h b13 u g u g r"
 rfl
 exact "z dwu azak b11 P n L n f h b12 u g n f h b12 u g n b13 r y i14 p n"
 refine QR (M:=["_law_script", "_law_many", "_law_params", "_law_bits", "_law_names", "_law_steps_here", "_law_last", "_law_things", "_law_values", "~_law_k", "~_law_param", "_law_due", "_law_step", "_law_atoms", "_law_later", "_law_name_here", "_law_program", "_law_made"]) rfl (by exact "3zbF") (by exact ⟨rfl,by show ∀p∈List.zip (["_law_script", "_law_many", "_law_params", "_law_bits", "_law_names", "_law_steps_here", "_law_last", "_law_things", "_law_values", "~_law_k", "~_law_param", "_law_due", "_law_step", "_law_atoms", "_law_later", "_law_name_here", "_law_program", "_law_made"]:Ad) (["_law_script", "_law_many", "_law_params", "_law_bits", "_law_names", "_law_steps_here", "_law_last", "_law_things", "_law_values", "_law_k", "_law_param", "_law_due", "_law_step", "_law_atoms", "_law_later", "_law_name_here", "_law_program", "_law_made"]:Ad),p.1=p.2\/p.1∉(_:Ad);decide +kernel⟩) (by decide +kernel) T.b_enumerate ?_ ?_ ?_
 exact "n Z r x jyL mze0 mze1 b5 G u u x N r T y i15 ezfF n G n u r T y i16 P n P n b15 n p n Z r n P n p n b5 r n P n L n b6 r r r r T y i17 ezuI n b16 n ezvf n b16 n b3 n P r r n p n b8 r n mjM u mwC ezba n G n u r u r T y k dzai azde dzdf djL t n b17 n O r azde dzdf djL"
 refine zO (F7 T 12) (hr.mono (by decide)) zK ?_
 exact "n b17 r dzeA jzbu s n b17 r u z H czb4 M y k jzbu f h b17 u g P n P n b15 n b3 n p n b8 r r r z H czb4 M z H FyL f h b17 u g P n P n L n b14 n P n p n b11 r n P n L n ezjm n b6 n b7 r r r r r"
end
def t_ (i j:Int) (h:0<j):jA i j=i%j:=by unfold jA;rw [zx h]
def U6 (i j:Int) (h:0<j):jZ i j=i/j:=by unfold jZ;rw [zx h]
noncomputable abbrev Gb:Str := "abcdefghijklmnopqrstuvwxyz"
def Old (a b:aa):Prop:=∀(n:Nat) so,a[n]?=some so->b[n]?=some so
def Old.refl (a:aa):Old a a:=λ_ _ e=>e
def Old.trans {a b c:aa}(h:Old a b) (h':Old b c):Old a c:=λn so e=>h' n so (h n so e)
def U7 {a b:aa}(h:Pre a b):Old a b:=λn so e=>h.get e
def zR (a d:aa):Old a (a++d):=U7 (Pre.of a d)
theorem eQ (i:Int) (j:Nat) (h:0<j):∃b:Nat,b<j/\jA i j=b:=by
 have h1:=Int.emod_nonneg i (show (j:Int)≠0 by omega)
 have h2:=Int.emod_lt_of_pos i (show (0:Int)<j by omega)
 exact ⟨(i%j).toNat,by omega,by rw [t_ _ _ (by omega)];omega⟩
def yb {st:aa}{n:Nat}{so:SO}(h:st[n]?=some so):n<st.length:=(yv.mp h).1
theorem mI {fe:Ai}{env:zd}(xs:An) (I:Nat->List PV->aa->Prop) (step:∀i x ys st,xs[i]?=some x->I i ys st->∃y ae,fe (some x::env) st=.ok y ae/\I (i+1) (ys++[y]) ae) :
  ∀(k i:Nat) (ys:An) (st:aa),i+k=xs.length->I i ys st->∃f_ bx,cO fe env (xs.drop i) ys st=.ok (.ref bx.length) (bx++[.lst f_])/\I xs.length f_ bx
 | 0,i,ys,st,hk,h=>⟨ys,st,by rw [lz (by omega)];rfl,by rw [<-hk];exact h⟩
 | k+1,i,ys,st,hk,h=>by
  have hx:xs[i]?=some (xs[i]'(by omega)):=yo (by omega)
  obtain ⟨y,ae,e,h1⟩:=step i _ ys st hx h
  obtain ⟨f_,bx,r,h2⟩:=mI xs I step k (i+1) (ys++[y]) ae (by omega) h1
  refine ⟨f_,bx,?_,h2⟩
  rw [jW (by omega)]
  unfold cO
  rw [e]
  simp only [j0,zG]
  exact r
theorem Gd {fe:Ai}{env:zd}{n:Nat}(xs:An) (I:Nat->List PV->aa->Prop) (at_:∀i ys st,I i ys st->st[n]?=some (.lst xs)) (step:∀i x ys st,xs[i]?=some x->I i ys st->∃y ae,fe (some x::env) st=.ok y ae/\I (i+1) (ys++[y]) ae) :
  ∀(k i m:Nat) (ys:An) (st:aa),i+k=xs.length->k<m->I i ys st->∃f_ bx,fC fe env n m i ys st=.ok (.ref bx.length) (bx++[.lst f_])/\I xs.length f_ bx
 | 0,i,m,ys,st,hk,hm,h=>by
  obtain ⟨m,rfl⟩:∃j,m=j+1:=⟨m-1,by omega⟩
  refine ⟨ys,st,?_,by rw [<-hk];exact h⟩
  unfold fC
  rw [yz (at_ _ _ _ h),lC (by omega)]
 | k+1,i,m,ys,st,hk,hm,h=>by
  obtain ⟨m,rfl⟩:∃j,m=j+1:=⟨m-1,by omega⟩
  have hx:xs[i]?=some (xs[i]'(by omega)):=yo (by omega)
  obtain ⟨y,ae,e,h1⟩:=step i _ ys st hx h
  obtain ⟨f_,bx,r,h2⟩:=Gd xs I at_ step k (i+1) m (ys++[y]) ae (by omega) (by omega) h1
  refine ⟨f_,bx,?_,h2⟩
  unfold fC
  rw [yz (at_ _ _ _ h),hx]
  simp only
  rw [e]
  simp only [j0,zG]
  exact r
noncomputable abbrev S (l:List Nat):Str:=⟨l.toArray⟩
def Ge (z:Str):S z.cps.toList=z:=by cases z;simp [S]
def oi (l:List Nat):(S l).length=l.length:=by show l.toArray.size=_;simp
def qP (a b:List Nat):S a++S b=S (a++b):=by
 rw [<-Ge (S a++S b),PySem.Str.cps_append]
 congr 1
 simp [S]
def ad (x y:Str) (h:x.length+y.length<=1000000) (st:aa):yH (.str x) (.str y) st=.ok (.str (x++y)) st:=by
 rw [Oi,zx h]
def iW {α:Type}{l:List α}{i:Nat}{x:α}(h:l[i]?=some x):l.take (i+1)=l.take i++[x]:=by
 obtain ⟨hi,e⟩:=yv.mp h
 rw [<-e,List.take_append_getElem]
theorem AF {g:PV->zd->Option zd}{body:Aj}{n:Nat}(xs:An) (I:Nat->zd->aa->Prop) (at_:∀i e st,I i e st->st[n]?=some (.lst xs)) (step:∀i x e st,xs[i]?=some x->I i e st->∃e1 e2 aA,g x e=some e1/\body e1 st=.ok (.nx e2) aA/\I (i+1) e2 aA) :
  ∀(k i m:Nat) (env:zd) (st:aa),i+k=xs.length->k<m->I i env st->∃bQ bx,forR g body n m i env st=.ok (.nx bQ) bx/\I xs.length bQ bx
 | 0,i,m,env,st,hk,hm,h=>by
  obtain ⟨m,rfl⟩:∃j,m=j+1:=⟨m-1,by omega⟩
  refine ⟨env,st,?_,by rw [<-hk];exact h⟩
  unfold forR
  rw [yz (at_ _ _ _ h),lC (by omega)]
 | k+1,i,m,env,st,hk,hm,h=>by
  obtain ⟨m,rfl⟩:∃j,m=j+1:=⟨m-1,by omega⟩
  have hx:xs[i]?=some (xs[i]'(by omega)):=yo (by omega)
  obtain ⟨e1,e2,aA,q1,q2,q3⟩:=step i _ env st hx h
  obtain ⟨bQ,bx,r,h2⟩:=AF xs I at_ step k (i+1) m e2 aA (by omega) (by omega) q3
  refine ⟨bQ,bx,?_,h2⟩
  unfold forR
  rw [yz (at_ _ _ _ h),hx]
  simp only
  rw [q1]
  simp only
  rw [q2]
  simp only [zG]
  exact r
def bt {α:Type}{l:List α}{k:Nat}{x:α}(h:l[k]?=some x):cu l (k:Int)=some x:=by
 have:=(yv.mp h).1
 have e:=(yv.mp h).2
 simp [cu,fG,this,e]
def kZ {i j:Int}(b:Bool) (h:decide (i<j)=b) (st:aa):j8 (.int i) (.int j) st=.ok (.bl b) st:=by rw [xS,h]
def gP {i j:Int}(b:Bool) (h:decide (i=j)=b) (st:aa):ya (.int i) (.int j) st=.ok (.bl b) st:=by rw [xT,h]
def Gf {i j:Int}(b:Bool) (h:decide (j<i)=b) (st:aa):kI (.int i) (.int j) st=.ok (.bl b) st:=by rw [P0,h]
def U8 {n i:Nat}{x:PV}(h:(nums 0 n)[i]?=some x):i<n/\x=.int (i:Int):=by
 unfold nums at h
 rw [yZ] at h
 cases e:(List.range n)[i]? with
 | none=>rw [e] at h;cases h
 | some j =>
  rw [e] at h
  obtain ⟨h1,h2⟩:=yv.mp e
  rw [List.getElem_range] at h2
  rw [List.length_range] at h1
  cases h
  exact ⟨h1,by subst h2;simp⟩
def AG (n:Nat):(nums 0 n).length=n:=by simp [nums]
theorem U9 (m:Nat) (st:aa) (h:m<=1000):nQ [.int (m:Int)] st=.ok (.im (nums 0 m)) st:=by
 have hr:cR (m:Int)=true:=by simp [cR];omega
 rw [O3,zx hr];simp
theorem U_ {fe:Ai}{fs:Ah}{env:zd}{st s0:aa}(n:Nat) (hn:n<=1000) (hf:fs env st=.ok [.int (n:Int)] s0) (I:Nat->List PV->aa->Prop) (step:∀i ys st,i<n->I i ys st->∃y ae,fe (Av i::env) st=.ok y ae/\I (i+1) (ys++[y]) ae) (h0:I 0 [] s0) :
  ∃f_ bx,(y8 (fY fs) fe) env st=.ok (.ref bx.length) (bx++[.lst f_])/\I n f_ bx:=by
 obtain ⟨ys,s1,C,h⟩:=mI (fe:=fe) (env:=env) (nums 0 n) I (λi x ys st hx h=>by
  obtain ⟨hi,rfl⟩:=U8 hx
  exact step i ys st hi h) n 0 [] s0 (by rw [AG];omega) h0
 rw [AG] at h
 refine ⟨ys,s1,?_,h⟩
 rw [iP,O0,hf,zG,U9 n _ hn,zG,kS,zx (by rw [AG];simp [lim];omega)]
 exact C
theorem Gg {fo fi fv:Ai}{e:zd}{s s1:aa}{r:Nat}{z:Str}{x:PV}{ks:Ad}{xs:An}(hv:fv e s=.ok x s1) (ho:fo e s1=.ok (.ref r) s1) (hi:fi e s1=.ok (.str z) s1) (hr:s1[r]?=some (.dic ks xs)) (hl:ks.length<=1000) :
  jD fo fi fv e s=.ok (.nx e) (s1.set r (.dic (jT z x ks xs).1 (jT z x ks xs).2)):=by
 unfold jD
 rw [hv,zG,ho,zG,hi,zG]
 show (ja s1 r _).bind _=_
 rw [El hr,zx (by simp [lim];omega),zG]
theorem Va (c:Nat) (m:Nat) (hm:0<m):jZ (c:Int) (m:Int)=((c/m:Nat):Int):=by rw [U6 _ _ (by omega)];exact (Int.natCast_ediv c m).symm
def Vb (c:Nat) (m:Nat) (hm:0<m):jA (c:Int) (m:Int)=((c%m:Nat):Int):=by rw [t_ _ _ (by omega)];exact (Int.natCast_emod c m).symm
theorem Vc {st:aa}(c m:Nat) (hm:0<m) (h2:m<2 ^ 60):wt (.int (c:Int)) (.int (m:Int)) st=.ok (.int ((c/m:Nat):Int)) st:=by rw [tu _ _ (by omega) (by omega),Va c m hm]
def Vd {st:aa}(c m:Nat) (hm:0<m):yS (.int (c:Int)) (.int (m:Int)) st=.ok (.int ((c%m:Nat):Int)) st:=by rw [w4 _ _ (by omega),Vb c m hm]
def ua {st:aa}(a b:Nat):yH (.int (a:Int)) (.int (b:Int)) st=.ok (.int ((a+b:Nat):Int)) st:=by rw [tq];congr 2
def AH {α:Type}{l:List α}(nd:l.Nodup) {i j:Nat}(hi:i<l.length) (hj:j<l.length) (h:l[i]=l[j]):i=j:=by
 have p:=List.pairwise_iff_getElem.mp nd
 rcases Nat.lt_trichotomy i j with q|q|q
 ·exact absurd h (p i j hi hj q)
 ·exact q
 ·exact absurd h.symm (p j i hj hi q)
def wH {f fa fb:Ai}{e:zd}{st s1 s2 s3:aa}{x y z:PV}(h:f e st=.ok x s1) (h':fa e s1=.ok y s2) (h2:fb e s2=.ok z s3):ze f (ze fa (ze fb zk)) e st=.ok [x,y,z] s3:=tj h (zW h' h2)
def mJ {f fa fb fc:Ai}{e:zd}{st s1 s2 s3 s4:aa}{x y z w:PV}(h:f e st=.ok x s1) (h':fa e s1=.ok y s2) (h2:fb e s2=.ok z s3) (h3:fc e s3=.ok w s4):ze f (ze fa (ze fb (ze fc zk))) e st=.ok [x,y,z,w] s4:=tj h (wH h' h2 h3)
theorem iX {s:aa}{n:Nat}{xs:An}{y:PV}(h:s[n]?=some (.lst xs)) (hl:xs.length<=100000):js (.ref n) y s=.ok .non (s.set n (.lst (xs++[y]))):=by rw [O7,yz h,zx (by simp [lim];omega)]
def Ve {s:aa}{n:Nat}{xs:An}(h:s[n]?=some (.lst xs)):mm [.ref n] s=.ok (.ref s.length) (s++[.lst xs]):=by
 simp only [mm,h]
 show yl s n _=_
 rw [yz h]
def yG {x:PV}{r:An}{st:aa}:zm (.tup (x::r)) (.int 0) st=.ok x st:=by
 have e:=bt (l:=x::r) (k:=0) (x:=x) rfl
 exact (congrArg (λz=>bP z st) e).trans rfl
def yE {x y:PV}{r:An}{st:aa}:zm (.tup (x::y::r)) (.int 1) st=.ok y st:=by
 have e:=bt (l:=x::y::r) (k:=1) (x:=y) rfl
 exact (congrArg (λz=>bP z st) e).trans rfl
def wx {x y z:PV}{r:An}{st:aa}:zm (.tup (x::y::z::r)) (.int 2) st=.ok z st:=by
 have e:=bt (l:=x::y::z::r) (k:=2) (x:=z) rfl
 exact (congrArg (λz=>bP z st) e).trans rfl
def oj {x y z w:PV}{r:An}{st:aa}:zm (.tup (x::y::z::w::r)) (.int 3) st=.ok w st:=by
 have e:=bt (l:=x::y::z::w::r) (k:=3) (x:=w) rfl
 exact (congrArg (λz=>bP z st) e).trans rfl
def AI {xs ys:An}{st:aa}(h:xs.length+ys.length<=1000000):yH (.tup xs) (.tup ys) st=.ok (.tup (xs++ys)) st:=by
 show (if xs.length+ys.length<=lim then _ else _)=_
 rw [zx (by simpa [lim] using h)]
def eqs (a b:Str) (c:Bool) (h:decide (a=b)=c) (st:aa):ya (.str a) (.str b) st=.ok (.bl c) st:=by rw [P2,h]
theorem fZ {α:Type}{l:List α}{x:α}(h:l[l.length-1]?=some x):cu l (-1)=some x:=by
 have h1:=(yv.mp h).1
 have e:fG l.length (-1)=some (l.length-1):=by
  unfold fG
  rw [zH (by decide),zx (by omega)]
  congr 1
  omega
 simp only [cu,e,Option.bind_some,h]
theorem n1:("let" : Str) ≠ "call" := by decide +kernel
theorem n2:("let" : Str) ≠ "go" := by decide +kernel
theorem n3:("give" : Str) ≠ "call" := by decide +kernel
theorem n4:("give" : Str) ≠ "go" := by decide +kernel
theorem n7:("go" : Str) ≠ "call" := by decide +kernel
theorem Vf:("give" : Str) ≠ "let" := by decide +kernel
def cH {a b:Str}(h:a≠b) (st:aa):ya (.str a) (.str b) st=.ok (.bl false) st:=eqs a b false (by simpa using h) st
def fR {a:Str}(st:aa):ya (.str a) (.str a) st=.ok (.bl true) st:=eqs a a true (by simp) st
def q0 {z y:Str}{c:Bool}{e:zd}{r:An}{s:aa}{i:Nat}(hi:e[i]?=some (some (.tup (.str z::r)))) (h:ya (.str z) (.str y) s=.ok (.bl c) s):(mB (zh ya (zh zm (zc i) (Ar 0)) (As y))) e s=.ok c s:=zQ (zl (zl (zf hi) rfl yG) rfl h)
def Gh (z:Str) (c:Bool) (h:((("let" : Str)==z)||(("call" : Str)==z))=c) (st:aa):yt false (.str z) (.tup [.str "let", .str "call"]) st=.ok (.bl c) st:=by
 rw [DV,zx ⟨rfl,rfl,by simp [cZ,dep]⟩]
 simp [bz,h]
theorem Gi {ft:Ak}{fe:Ai}{env:zd}{st:aa}{n:Nat}{p:PV->Bool}{f:PV->PV}(xs:An) (hn:st[n]?=some (.lst xs)) (h:∀x∈xs,ft (some x::env) st=.ok (p x) st) (h':∀x∈xs,p x=true->fe (some x::env) st=.ok (f x) st):∀(k i m:Nat) (ys:An),i+k=xs.length->k<m->dP ft fe env n m i ys st=.ok (.ref st.length) (st++[.lst (ys++(xs.drop i).flatMap λx=>if p x=true then [f x] else [])])
 | 0,i,m,ys,hk,hm=>by
  obtain ⟨m,rfl⟩:∃j,m=j+1:=⟨m-1,by omega⟩
  unfold dP
  rw [yz hn,lC (by omega),lz (by omega)]
  simp
 | k+1,i,m,ys,hk,hm=>by
  obtain ⟨m,rfl⟩:∃j,m=j+1:=⟨m-1,by omega⟩
  have hi:i<xs.length:=by omega
  have hx:xs[i]?=some (xs[i]'hi):=yo hi
  have mem:=q_ hi
  have ih:=Gi (ft:=ft) (fe:=fe) (env:=env) xs hn h h' k (i+1) m
  unfold dP
  rw [yz hn,hx]
  simp only
  rw [h _ mem]
  simp only [j0,zG]
  rw [jW hi,List.flatMap_cons]
  cases hp:p (xs[i]'hi) with
  | true =>
   simp only [if_true]
   rw [h' _ mem hp]
   simp only [j0,zG]
   rw [ih _ (by omega) (by omega)]
   simp
  | false =>
   rw [zH (by simp),ih _ (by omega) (by omega)]
   simp
theorem dr {g:PV->zd->Option zd}{body:Aj}(xs:An) (I:Nat->zd->aa->Prop) (step:∀i x e st,xs[i]?=some x->I i e st->∃e1 e2 aA,g x e=some e1/\body e1 st=.ok (.nx e2) aA/\I (i+1) e2 aA) :
  ∀(k i:Nat) (env:zd) (st:aa),i+k=xs.length->I i env st->∃bQ bx,forL g body (xs.drop i) env st=.ok (.nx bQ) bx/\I xs.length bQ bx
 | 0,i,env,st,hk,h=>⟨env,st,by rw [lz (by omega)];rfl,by rw [<-hk];exact h⟩
 | k+1,i,env,st,hk,h=>by
  have hx:xs[i]?=some (xs[i]'(by omega)):=yo (by omega)
  obtain ⟨e1,e2,aA,q1,q2,q3⟩:=step i _ env st hx h
  obtain ⟨bQ,bx,r,h2⟩:=dr xs I step k (i+1) e2 aA (by omega) q3
  refine ⟨bQ,bx,?_,h2⟩
  rw [jW (by omega)]
  unfold forL
  rw [q1]
  simp only
  rw [q2]
  simp only [zG]
  exact r
def Vg {s:aa}{n k:Nat}{xs ys:An}(h:s[n]?=some (.lst xs)) (h':s[k]?=some (.lst ys)) (hl:xs.length+ys.length<=1000000):xi (.ref n) (.ref k) s=.ok .non (s.set n (.lst (xs++ys))):=by
 show yl s n _=_
 rw [yz h,yz h']
 exact zx (by simpa [lim] using hl)
noncomputable def bq:List Bool->Int
 | []=>0
 | b::r=>(if b then 1 else 0)+2*bq r
theorem AJ:∀l,0<=bq l
 | []=>by simp [bq]
 | b::r=>by have:=AJ r;simp only [bq];split<;>omega
theorem Gj:∀(l:List Bool) (b:Bool),bq (l++[b])=bq l+(if b then 2 ^ l.length else 0)
 | [],b=>by simp [bq]
 | a::r,b=>by
  simp only [List.cons_append,bq,Gj r b,j5]
  cases b<;>simp [Int.pow_succ]<;>omega
theorem Gk:∀l,bq l<2 ^ l.length
 | []=>by simp [bq]
 | b::r=>by
  have:=Gk r
  simp only [bq,j5,Int.pow_succ]
  split<;>omega
theorem Vh (x:Int) (i:Nat) (h0:0<=x) (h:x<2 ^ i):Builtin.bitOr x (1*2 ^ i)=x+2 ^ i:=by
 rw [PyProof.Rows.bitOr_and]
 have hp:(0:Int)<=2 ^ i:=Int.pow_nonneg (by decide)
 have e:Builtin.bitAnd x (1*2 ^ i)=0:=by
  rw [Int.one_mul]
  unfold Builtin.bitAnd
  rw [jJ h0,jJ hp]
  show ((x.toNat &&& ((2:Int) ^ i).toNat:Nat):Int)=0
  have e2:((2:Int) ^ i).toNat=2 ^ i:=by
   have:((2:Int) ^ i)=((2 ^ i:Nat):Int):=by simp
   rw [this,Int.toNat_natCast]
  rw [e2]
  have hx:x.toNat<2 ^ i:=by
   have:((x.toNat:Nat):Int)<((2 ^ i:Nat):Int):=by rw [Int.toNat_of_nonneg h0];simpa using h
   exact_mod_cast this
  have hz:x.toNat &&& 2 ^ i=0:=by
   apply Nat.eq_of_testBit_eq
   intro j
   rw [Nat.testBit_and,Nat.testBit_two_pow,Nat.zero_testBit]
   by_cases dq:i=j
   ·subst dq;rw [Nat.testBit_lt_two_pow hx];rfl
   ·simp [dq]
  rw [hz];rfl
 rw [e]
 omega
theorem Vi (l:List Bool) (n:Nat) (st:aa) (hn:st[n]?=some (.lst (l.map PV.bl))) (v0:Ao):∀(k i m:Nat) (v2 v3:Ao),l.length-i=k->i<=l.length->k<m->l.length<=1000 ->
  ∃Vj Vk,dW (g2 2 3) (zT (mB (zc 3)) (zJ 1 (zh xx (zc 1) (zh pZ (Ar 1) (zc 2)))) zX) n m i [v0,some (.int (bq (l.take i))),v2,v3] st=.ok (.nx [v0,some (.int (bq l)),Vj,Vk]) st:=by
 intro k
 induction k with
 | zero =>
  intro i m v2 v3 hk hi hm hl
  obtain ⟨m',rfl⟩:∃m',m=m'+1:=⟨m-1,by omega⟩
  have nC:i=l.length:=by omega
  subst nC
  refine ⟨v2,v3,?_⟩
  simp [dW,yl,hn]
 | succ k ih =>
  intro i m v2 v3 hk hi hm hl
  obtain ⟨m',rfl⟩:∃m',m=m'+1:=⟨m-1,by omega⟩
  have bw:i<l.length:=by omega
  have ht:l.take (i+1)=l.take i++[l[i]]:=(List.take_append_getElem bw).symm
  obtain ⟨w2,w3,e⟩:=ih (i+1) m' (some (.int i)) (some (.bl l[i])) (by omega) (by omega) (by omega) hl
  refine ⟨w2,w3,?_⟩
  rw [<-e]
  have hb:=AJ (l.take i)
  have Gm:=Gk (l.take i)
  have hlen:(l.take i).length=i:=by simp;omega
  rw [hlen] at Gm
  have hv:bq (l.take (i+1))=bq (l.take i)+(if l[i] then 2 ^ i else 0):=by rw [ht,Gj,hlen]
  have nI:(l.map PV.bl)[i]?=some (.bl l[i]):=by simp [bw]
  conv=>lhs;unfold dW
  simp only [yl,hn,nI,Ow]
  cases hbi:l[i] with
  | true =>
   rw [hbi] at hv
   have ho:=Vh _ i hb Gm
   rw [Int.one_mul] at ho
   have hc:eh 1 (i:Int)=true:=by
    simp [eh]
    omega
   simp [hc,ho,hv]
  | false =>
   rw [hbi] at hv
   simp at hv
   simp [hv]
theorem Gn (l:List Bool) (hl:l.length<=1000) (n:Nat) (st:aa) (hn:st[n]?=some (.lst (l.map PV.bl))):qu [.ref n] st=.ok (.int (bq l)) st:=by
 obtain ⟨w2,w3,e⟩:=Vi l n st hn (Au n) l.length 0 (lim+1) none none rfl (jj _) (by show l.length<1000000+1;omega) hl
 simp only [List.take_zero,bq] at e
 simp [qu,zL,FG,FE,FC,yl,hn,e]
theorem AK:∀zs:Ad,bE (zs.map PV.str)=true
 | []=>rfl
 | z::zs=>by simp [bE,Mi.plain,AK zs]
theorem AL:∀zs:Ad,cZ (zs.map PV.str)=0
 | []=>rfl
 | z::zs=>by simp [cZ,dep,AL zs]
def Gp (z:Str) (zs:Ad):(zs.map PV.str).any (λy=>bz y (.str z))=decide (z∈zs):=by
 simp only [List.any_map,Function.comp_def,bz]
 rw [Bool.eq_iff_iff,List.any_eq_true,decide_eq_true_eq]
 constructor
 ·rintro ⟨x,hx,e⟩
  rw [beq_iff_eq] at e
  exact e▸hx
 ·intro h
  exact ⟨z,h,by simp⟩
theorem Vl (n:Bool) (z:Str) (zs:Ad) (st:aa):yt n (.str z) (.tup (zs.map PV.str)) st=.ok (.bl (n.xor (decide (z∈zs)))) st:=by
 rw [DV,zx ⟨rfl,AK zs,by rw [AL];omega⟩,Gp]
theorem AO {α:Type}{z:Str}:∀{ks:Ad}{xs:List α},z∉ks->(ks.zip xs).lookup z=none
 | [],_,_=>by simp
 | _::_,[],_=>by simp
 | k::ks,x::xs,h=>by
  have ne:(z==k)=false:=by
   rw [beq_eq_false_iff_ne]
   intro e
   exact h (by rw [e];exact jd ..)
  rw [List.zip_cons_cons,yO,ne]
  exact AO λhm=>h (jq _ hm)
def uc {s:aa}{d:Nat}{ks:Ad}{xs:An}{z:Str}{b:Bool}(h:s[d]?=some (.dic ks xs)) (hb:((ks.zip xs).lookup z).isSome=b):yt false (.str z) (.ref d) s=.ok (.bl b) s:=by
 simp [yt,h,hb]
def Vm {fa fb:Ai}{e:zd}{st s1:aa}(h:fa e st=.ok (.bl false) s1):kD fa fb e st=.ok (.bl false) s1:=by
 rw [Dx,h,zG,xq,zG,zH (by simp)]
noncomputable def aW (L:Ad):PV->Bool
 | .tup [.str w,.str z]=>decide (w = "of")&&decide (z∈L)
 | _=>false
theorem AQ:("is" : Str) ≠ "of" := by decide +kernel
def ud (L:Ad) (z:Str):aW L (.tup [.str "of", .str z])=decide (z∈L):=by simp [aW]
def ue (L:Ad) (v:PV):aW L (.tup [.str "is", v])=false:=by
 cases v with
 | str z=>simp [aW,AQ]
 | _=>rfl
def AR {z:Str}{L:Ad}{xs:An}(hl:L.length=xs.length):((L.zip xs).lookup z).isSome=decide (z∈L):=by
 by_cases h:z∈L
 ·rw [jJ h]
  induction L generalizing xs with
  | nil=>cases h
  | cons y r ih =>
   cases xs with
   | nil=>simp at hl
   | cons x xs =>
    rw [List.zip_cons_cons,yO]
    by_cases e:z=y
    ·simp [e]
    ·have e':(z==y)=false:=by simpa using e
     rw [e']
     exact ih (by simpa using hl) ((yF.mp h).resolve_left e)
 ·rw [AO h,jr h];rfl
def Vn {s:aa}{n:Nat}{L:Ad}{z:Str}(h:s[n]?=some (.lst (L.map PV.str))):yt false (.str z) (.ref n) s=.ok (.bl (decide (z∈L))) s:=by
 simp only [yt,h]
 rw [zx ⟨rfl,AK L,by rw [AL];omega⟩,Gp,Bool.false_xor]
def k7 (L:Ad) (s:aa) (d:Nat):Prop:=(∃xs,s[d]?=some (.dic L xs)/\L.length=xs.length)\/s[d]?=some (.lst (L.map PV.str))
def Vo {L:Ad}{s:aa}{d:Nat}{z:Str}(h:k7 L s d):yt false (.str z) (.ref d) s=.ok (.bl (decide (z∈L))) s:=by
 rcases h with ⟨xs,h,hl⟩|h
 ·exact uc h (AR hl)
 ·exact Vn h
def k7.old {L:Ad}{s s':aa}{d:Nat}(h:k7 L s d) (o:Old s s'):k7 L s' d:=by
 rcases h with ⟨xs,h,hl⟩|h
 ·exact .inl ⟨xs,o _ _ h,hl⟩
 ·exact .inr (o _ _ h)
theorem Gq (l:List Bool):decide (bq l≠0)=l.any id:=by
 induction l with
 | nil=>simp [bq]
 | cons b r ih =>
  have h:=AJ r
  rw [List.any_cons,<-ih]
  cases b with
  | true=>simp only [bq,zx,id,Bool.true_or];rw [decide_eq_true_eq];simp;omega
  | false=>simp [bq]
inductive gQ:PV->Prop
 | of (z:Str):gQ (.tup [.str "of", .str z])
 | is (v:PV):gQ (.tup [.str "is", v])
def Vp {a:PV} (h:gQ a) {L:Ad} {s:aa} {d:Nat} (hd:k7 L s d) {e:zd} {i:Nat} (h0:e[0]?=some (some a)) (hi:e[i]?=some (Au d)):kD (zh ya (zh zm (zc 0) (Ar 0)) (As "of")) (zh (yt false) (zh zm (zc 0) (Ar 1)) (zc i)) e s=.ok (.bl (aW L a)) s:=by
 cases h with
 | of z=>rw [ud];exact PZ (zl (zl (zf h0) rfl yG) rfl (fR _)) (zl (zl (zf h0) rfl yE) (zf hi) (Vo hd))
 | is v=>rw [ue];exact Vm (zl (zl (zf h0) rfl yG) rfl (cH AQ _))
theorem Gr {as:An}(has:∀a∈as,gQ a) (hl:as.length<=1000) {L:Ad}{s:aa}{d:Nat}(hd:k7 L s d):mD [.tup as,.ref d] s=.ok (.int (bq (as.map (aW L)))) (s++[.lst ((as.map (aW L)).map PV.bl)]):=by
 have C:=xE (fe:=kD (zh ya (zh zm (zc 0) (Ar 0)) (As "of")) (zh (yt false) (zh zm (zc 0) (Ar 1)) (zc 2))) (env:=[some (.tup as),Au d]) (f:=λa=>.bl (aW L a)) (st:=s) as (λx hx=>Vp (has x hx) hd rfl rfl) []
 have em:List.map (λa=>PV.bl (aW L a)) as=List.map PV.bl (List.map (aW L) as):=by simp
 rw [List.nil_append,em] at C
 have B:=Gn (as.map (aW L)) (by simpa using hl) s.length (s++[.lst ((as.map (aW L)).map PV.bl)]) (yp _ _)
 refine zZ rfl (zY (zC (zI ?_) B))
 rw [iP,wv,zf rfl,zG]
 show (Res.ok (Sq.im as) s).bind _=_
 rw [zG,kS,zx (by simp [lim];omega)]
 exact C
noncomputable def kP:Key->PV
 | .inl i=>.int i
 | .inr z=>.str z
noncomputable abbrev dC (k:List Key):PV:=.tup (k.map kP)
theorem AU:∀k:List Key,cJ (k.map kP)=some k
 | []=>rfl
 | x::r=>by
  have e:Et (kP x)=some x:=by cases x<;>rfl
  rw [yJ]
  unfold cJ
  rw [e,AU r]
noncomputable abbrev cx {α:Type}(ks:List α):An:=ks.map λ_=>.bl true
def IsT (ks:Ag) (s:aa) (n:Nat):Prop:=bR s[n]?=some (ks,cx ks)
def Gs {old:Am}{neg:Bool}{k:List Key}{ks:Ag}{s:aa}{n:Nat}(h:IsT ks s n):cA old neg (dC k) (.ref n) s=.ok (.bl (neg.xor (cq k ks))) (s.set n (.dit ks (cx ks))):=by
 unfold cA
 simp only [AU]
 rw [show bR s[n]?=some (ks,cx ks) from h]
def IsT.lt {ks:Ag}{s:aa}{n:Nat}(h:IsT ks s n):n<s.length:=by
 unfold IsT at h
 cases e:s[n]? with
 | none=>rw [e] at h;cases h
 | some so=>exact (yv.mp e).1
def AV {ks:Ag}{s:aa}{n:Nat}(h:n<s.length):IsT ks (s.set n (.dit ks (cx ks))) n:=by
 unfold IsT
 rw [yM h]
 rfl
noncomputable def eE (ks:Ag) (k:List Key):Ag:=if cq k ks=true then ks else ks++[k]
theorem Gu {k:List Key}:∀ks:Ag,gM k (PV.bl true) ks (cx ks)=cx ks
 | []=>rfl
 | x::r=>by
  rw [show cx (x::r)=PV.bl true::cx r from rfl]
  unfold gM
  rw [Gu r,ite_self]
def Vq {k:List Key}{ks:Ag}:ww k (.bl true) ks (cx ks)=(eE ks k,cx (eE ks k)):=by
 unfold ww eE
 by_cases h:cq k ks=true
 ·rw [zx h,zx h,Gu]
 ·rw [zH h,zH h];simp [cx]
def Vr {fo fi fv:Ai}{e:zd}{s:aa}{n:Nat}{k:List Key}{ks:Ag}(hv:fv e s=.ok (.bl true) s) (ho:fo e s=.ok (.ref n) s) (hi:fi e s=.ok (dC k) s) (h:IsT ks s n) (hl:ks.length<1000000) :
  iR fo fi fv e s=.ok (.nx e) (s.set n (.dit (eE ks k) (cx (eE ks k)))):=by
 unfold iR
 rw [hv,zG,ho,zG,hi,zG]
 have P:iQ (dC k) (.bl true) (.ref n) s=.ok () (s.set n (.dit (eE ks k) (cx (eE ks k)))):=by
  unfold iQ
  simp only [AU]
  rw [show bR s[n]?=some (ks,cx ks) from h]
  simp only
  rw [zx (by simpa [lim] using hl),Vq]
 rw [P,zG]
noncomputable abbrev bM:Aj:=(iR (zc 1) (zc 2) (mC (.bl true)))
def gi (n:Nat) (s s':aa):Prop:=∀(m:Nat) so,m≠n->s[m]?=some so->s'[m]?=some so
def gi.refl (n:Nat) (s:aa):gi n s s:=λ_ _ _ e=>e
def gi.trans {n:Nat}{a b c:aa}(h:gi n a b) (h':gi n b c):gi n a c:=λm so q e=>h' m so q (h m so q e)
def Gv {n:Nat}{s:aa}{o:SO}:gi n s (s.set n o):=λm so q e=>by rw [yh (yC q)];exact e
def Old.bar {n:Nat}{s s':aa}(h:Old s s'):gi n s s':=λm so _ e=>h m so e
def IsT.old {ks:Ag}{s s':aa}{n:Nat}(h:IsT ks s n) (o:Old s s'):IsT ks s' n:=by
 unfold IsT at h ⊢
 cases e:s[n]? with
 | none=>rw [e] at h;cases h
 | some so=>rw [o n so e];rw [e] at h;exact h
theorem Gw {r:Nat}{k:List Key}{st:aa}(hr:st[r]?=some (.lst [dC k])):∃s1,iS [.ref r] st=.ok (.ref st.length) s1/\IsT [k] s1 st.length/\Old st s1:=by
 have AW:(st++[SO.dic [] []])[r]?=some (.lst [dC k]):=zR _ _ _ _ hr
 have h0:IsT [] (st++[SO.dic [] []]) st.length:=by unfold IsT;rw [yp];rfl
 have P:=Vr (fo:=zc 1) (fi:=zc 2) (fv:=mC (.bl true)) (e:=[Au r,Au st.length,some (dC k)]) rfl (zf rfl) (zf rfl) h0 (by simp)
 have rl:r≠st.length:=by have:=yb hr;omega
 obtain ⟨e',s1,F,⟨z2,he⟩,hs⟩:=AF (g:=gN 2) (body:=bM) (n:=r) [dC k] (λi e s=>(∃z2,e=[Au r,Au st.length,z2])/\s=if i=0 then st++[SO.dic [] []] else (st++[SO.dic [] []]).set st.length (.dit (eE [] k) (cx (eE [] k)))) (λi e s ⟨_,h⟩=>by
   rw [h]
   split
   ·exact AW
   ·rw [yh (yC rl)];exact AW) (λi x e s hx ⟨⟨z2,he⟩,h⟩=>by
  have i0:i=0:=by have:=(yv.mp hx).1;simp at this;omega
  subst i0 he
  cases hx
  rw [zx rfl] at h
  subst h
  exact ⟨_,_,_,rfl,P,⟨_,rfl⟩,(zH (by omega)).symm⟩) 1 0 (lim+1) [Au r,Au st.length,none] (st++[SO.dic [] []]) rfl (by simp [lim]) ⟨⟨none,rfl⟩,(zx rfl).symm⟩
 subst he
 rw [zH (by simp)] at hs
 subst hs
 have FO:(jf (yD (zc 0)) (gN 2) bM) [Au r,Au st.length,none] (st++[SO.dic [] []])=.ok (.nx [Au r,Au st.length,z2]) ((st++[SO.dic [] []]).set st.length (.dit (eE [] k) (cx (eE [] k)))):=by
  rw [pX,wv,zf rfl,zG,sR,yz AW,zG]
  exact F
 exact ⟨_,zZ rfl (zA (zU rfl) (zA FO (zY (zf rfl)))),AV h0.lt,λm so e=>by rw [yh (by have:=yb e;omega)];exact zR _ _ _ _ e⟩
theorem uf (ps:Ad) (nd:ps.Nodup) (hl:ps.length<=1000) (st:aa):∃s1,iS [.tup (ps.map PV.str)] st=.ok (.ref st.length) s1/\s1[st.length]?=some (.dic ps (cx ps))/\Old st s1:=by
 obtain ⟨e',s1,F,⟨z2,he⟩,hd,ob⟩:=dr (g:=gN 2) (body:=bM) (ps.map PV.str) (λi e s=>(∃z2,e=[some (.tup (ps.map PV.str)),Au st.length,z2])/\s[st.length]?=some (.dic (ps.take i) (cx (ps.take i)))/\gi st.length (st++[.dic [] []]) s) (λi x e s hx ⟨⟨z2,he⟩,hd,ob⟩=>by
  subst he
  rw [yZ] at hx
  obtain ⟨z,hz,rfl⟩:=Option.map_eq_some_iff.mp hx
  have hi:i<ps.length:=(yv.mp hz).1
  have zn:z∉ps.take i:=λhm=>by
   obtain ⟨j,hj⟩:=List.getElem?_of_mem hm
   have jl:j<i:=by have:=(yv.mp hj).1;simp at this;omega
   rw [List.getElem?_take_of_lt jl] at hj
   obtain ⟨h1,h2⟩:=yv.mp hj
   obtain ⟨h3,h4⟩:=yv.mp hz
   have:=AH nd h1 h3 (h2.trans h4.symm)
   omega
  have P:=Gg (fo:=zc 1) (fi:=zc 2) (fv:=mC (.bl true)) (e:=[some (.tup (ps.map PV.str)),Au st.length,some (.str z)]) (s:=s) rfl (zf rfl) (zf rfl) hd (by simp;omega)
  have dp:jT z (.bl true) (ps.take i) (cx (ps.take i))=(ps.take (i+1),cx (ps.take (i+1))):=by
   unfold jT
   rw [zH (by simpa using zn),iW hz]
   simp [cx]
  rw [dp] at P
  have P':bM [some (.tup (ps.map PV.str)),Au st.length,some (.str z)] s=_:=P
  exact ⟨_,_,_,rfl,P',⟨_,rfl⟩,yM (yb hd),ob.trans Gv⟩) ps.length 0 [some (.tup (ps.map PV.str)),Au st.length,none] (st++[.dic [] []]) (by simp) ⟨⟨none,rfl⟩,yp _ _,gi.refl _ _⟩
 subst he
 rw [jk,List.take_length] at hd
 have FO:(jf (yD (zc 0)) (gN 2) bM) [some (.tup (ps.map PV.str)),Au st.length,none] (st++[.dic [] []])=.ok (.nx [some (.tup (ps.map PV.str)),Au st.length,z2]) s1:=by
  rw [pX,wv,zf rfl,zG]
  show (Res.ok (Sq.im (ps.map PV.str)) (st++[.dic [] []])).bind _=_
  rw [zG]
  exact F
 exact ⟨s1,zZ rfl (zA (zU rfl) (zA FO (zY (zf rfl)))),hd,λm so e=>ob m so (by have:=yb e;omega) (zR _ _ _ _ e)⟩
noncomputable abbrev pk (f z:Str):List Key:=[.inr f,.inr z]
def wI {x:PV}{r:An}{st:aa}:aP zm (.tup (x::r)) (.int 0) st=.ok x st:=yG
def om {x y:PV}{r:An}{st:aa}:aP zm (.tup (x::y::r)) (.int 1) st=.ok y st:=yE
def Vs {x y z w:PV}{r:An}{st:aa}:aP zm (.tup (x::y::z::w::r)) (.int 3) st=.ok w st:=oj
theorem Vt {f:Str}{ps:Ad}{r:An}(hl:ps.length<=1000) {ks:Ag}{s:aa}{q:Nat}(hT:IsT ks s q):∃s1,tX [.tup (.str f :: .tup (ps.map PV.str)::r),.ref q] s=.ok (.int (bq (ps.map λp=>cq (pk f p) ks))) s1/\IsT ks s1 q/\gi q s s1/\s.length<=s1.length:=by
 obtain ⟨ys,s',C,hy,ug,ob,Gx⟩:=mI (fe:=(zh (cA (yt false) false) (yd (ze (zh (aP zm) (zc 1) (Ar 0)) (ze (zc 0) zk))) (zc 2))) (env:=[some (.tup (.str f :: .tup (ps.map PV.str)::r)),Au q]) (ps.map PV.str) (λi ys s'=>ys=((ps.take i).map λp=>cq (pk f p) ks).map PV.bl/\IsT ks s' q/\gi q s s'/\s.length<=s'.length) (λi x ys s' hx ⟨hy,ug,ob,Gx⟩=>by
  rw [yZ] at hx
  obtain ⟨z,hz,rfl⟩:=Option.map_eq_some_iff.mp hx
  have R:=Gs (old:=yt false) (neg:=false) (k:=pk f z) ug
  rw [Bool.false_xor] at R
  refine ⟨_,_,zl (yB (zW (zl (zf rfl) rfl wI) (zf rfl)) (by simp)) (zf rfl) R,?_,AV ug.lt,ob.trans Gv,by simpa using Gx⟩
  rw [hy,iW hz]
  simp) ps.length 0 [] s (by simp) ⟨rfl,hT,gi.refl _ _,ye _⟩
 rw [jk,List.take_length] at hy
 have B:=Gn (ps.map λp=>cq (pk f p) ks) (by simpa using hl) s'.length (s'++[.lst ys]) (by rw [hy];exact yp _ _)
 refine ⟨s'++[.lst ys],zZ rfl (zY (zC (zI ?_) B)),ug.old (zR _ _),ob.trans (zR _ _).bar,by simp;omega⟩
 rw [iP,wv,zl (zf rfl) rfl om,zG]
 show (Res.ok (Sq.im (ps.map PV.str)) s).bind _=_
 rw [zG,kS,zx (by simp [lim];omega)]
 exact C
noncomputable def bitAt (b:Int) (i:Nat):Bool:=decide (b/2 ^ i%2=1)
noncomputable def picks (p:Nat->Bool):Nat->List Str->Ad
 | _,[]=>[]
 | i,z::r=>if p i then z::picks p (i+1) r else picks p (i+1) r
theorem uh {ft:Ak}{fe:Ai}{env:zd}{st:aa}{p:Nat->Bool}:∀(zs:Ad) (i:Nat) (ys:An),(∀(j:Nat) z,i<=j->j<i+zs.length->ft (some (.int j)::some (.str z)::env) st=.ok (p j) st)->(∀(j:Nat) z,fe (some (.int j)::some (.str z)::env) st=.ok (.str z) st)->dQ ft fe env i (zs.map PV.str) ys st=.ok (.ref st.length) (st++[.lst (ys++(picks p i zs).map PV.str)])
 | [],i,ys,_,_=>by simp [dQ,picks]
 | z::r,i,ys,h,h'=>by
  rw [yJ]
  unfold dQ
  rw [h i z (ye _) (by simp),j0,zG]
  unfold picks
  cases hp:p i with
  | true =>
   rw [zx rfl,zx rfl,h' i z,j0,zG,uh r (i+1) _ (λj z a b=>h j z (by omega) (by simp;omega)) h']
   simp
  | false =>
   rw [zH (by simp),zH (by simp),uh r (i+1) _ (λj z a b=>h j z (by omega) (by simp;omega)) h']
theorem wg {p:Nat->Bool}:∀{zs:Ad}{i:Nat},(picks p i zs).Sublist zs
 | [],_=>.slnil
 | z::r,i=>by
  unfold picks
  split
  ·exact (wg).cons₂ z
  ·exact (wg).cons z
theorem Gy (x:Int) (h:0<=x):Builtin.bitAnd x 1=x%2:=by
 unfold Builtin.bitAnd
 rw [jJ h]
 show ((x.toNat &&& 1:Nat):Int)=_
 rw [Nat.and_one_is_mod]
 omega
theorem Vu (j:Nat) (hj:j<=1000) (st:aa):pZ (.int 1) (.int (j:Int)) st=.ok (.int (2 ^ j)) st:=by
 have hc:eh 1 (j:Int)=true:=by simp [eh];omega
 show (if eh 1 (j:Int)=true then Res.ok (PV.int (1*2 ^ (j:Int).toNat)) st else .stuck)=_
 rw [zx hc,Int.one_mul,Int.toNat_natCast]
def Gz (b:Int) (hb:0<=b) (j:Nat) (st:aa):n8 [.int b,.int (j:Int)] st=.ok (.bl (bitAt b j)) st:=by
 have S:wW (.int b) (.int (j:Int)) st=.ok (.int (b/2 ^ j)) st:=by
  have hc:kQ b (j:Int)=true:=by simp [kQ]
  show (if kQ b (j:Int)=true then Res.ok (PV.int (b/2 ^ (j:Int).toNat)) st else .stuck)=_
  rw [zx hc,Int.toNat_natCast]
 have nn:0<=b/2 ^ j:=Int.ediv_nonneg hb (Int.pow_nonneg (by decide))
 have A:wV (.int (b/2 ^ j)) (.int 1) st=.ok (.int (b/2 ^ j%2)) st:=by
  show (if c0 (b/2 ^ j) 1=true then Res.ok (PV.int (Builtin.bitAnd (b/2 ^ j) 1)) st else .stuck)=_
  rw [zx rfl,Gy _ nn]
 exact zZ rfl (zY (zl (zl (zl (zf rfl) (zf rfl) S) rfl A) rfl (xT _ _)))
theorem uk {f:PV}{ps:Ad}{r:An}(b:Int) (hb:0<=b) (hl:ps.length<=1000) (st:aa):n9 [.tup (f :: .tup (ps.map PV.str)::r),.int b] st=.ok (.tup ((picks (bitAt b) 0 ps).map PV.str)) (st++[.lst ((picks (bitAt b) 0 ps).map PV.str)]):=by
 have C:=uh (ft:=(mB (zq n8 (ze (zc 3) (ze (zc 0) zk))))) (fe:=zc 1) (env:=[some (.tup (f :: .tup (ps.map PV.str)::r)),some (.int b)]) (st:=st) (p:=bitAt b) ps 0 [] (λj z _ _=>zQ (zC (zW (zf rfl) (zf rfl)) (Gz b hb j st))) (λj z=>zf rfl)
 rw [List.nil_append] at C
 refine zZ rfl (zY (zC (zI ?_) (by rw [wY,yz (yp _ _)])))
 unfold qq
 rw [zI (zl (zf rfl) rfl yE),zG]
 show (Res.bind (if _ then _ else _) _)=_
 rw [zx (by simp [lim];omega),zG]
 exact C
theorem GA {l:Ad}(nd:l.Nodup) {i:Nat}{z:Str}(hz:l[i]?=some z):z∉l.take i:=λhm=>by
 obtain ⟨j,hj⟩:=List.getElem?_of_mem hm
 have jl:j<i:=by have:=(yv.mp hj).1;simp at this;omega
 rw [List.getElem?_take_of_lt jl] at hj
 obtain ⟨h1,h2⟩:=yv.mp hj
 obtain ⟨h3,h4⟩:=yv.mp hz
 have:=AH nd h1 h3 (h2.trans h4.symm)
 omega
def oo {z:Str}{x:PV}{ks:Ad}{xs:An}(h:z∉ks):jT z x ks xs=(ks++[z],xs++[x]):=by
 unfold jT
 rw [zH (by simpa using h)]
noncomputable abbrev hG (q b:Nat):SO:=.ins "Holding" ["pairs", "bits_by_name"] [.ref q,.ref b]
def GB {s:aa} {o q b:Nat} (h:s[o]?=some (hG q b)):aS "pairs" insOf excOf (.ref o) s=.ok (.ref q) s:=by
 rw [DA,mh h,zx (by simp [insOf])]
 rfl
def GC {name:Str} {tab:Str->Option (Al)} {fo:Ai} {fs:Ah} {m:Al} {ys:An} {X:Res PV} {e:zd} {s s1:aa} {o q b:Nat} (ho:fo e s=.ok (.ref o) s) (h:s[o]?=some (hG q b)) (hn:name∉(["pairs", "bits_by_name"]:Ad)) (ht:tab "Holding" = some m) (hf:fs e s=.ok ys s1) (hm:m (.ref o::ys) s1=X):y3 name tab fo fs e s=X:=by
 unfold y3
 rw [ho,zG]
 show yV s o _=_
 unfold yV
 rw [h]
 simp only
 rw [zH hn,ht]
 simp only
 rw [hf,zG,hm]
def mK {s:aa}{n:Nat}{ks:Ad}{xs:An}{z:Str}{x:PV}(h:s[n]?=some (.dic ks xs)) (hl:(ks.zip xs).lookup z=some x):zm (.ref n) (.str z) s=.ok x s:=by
 show ja s n _=_
 unfold ja
 rw [h]
 simp only
 rw [hl]
 rfl
def GD (i:Int) (st:aa):jN (.int i) (.int 0) st=.ok (.bl (decide (i≠0))) st:=by
 simp [jN,Mi.plain,dep,bz]
 rfl
def iY {g:PV->zd->Option zd}{body:Aj}{x:PV}{r:An}{e e1 e2:zd}{s s1:aa}{X:Res Fl}(h:g x e=some e1) (hb:body e1 s=.ok (.nx e2) s1) (hr:forL g body r e2 s1=X):forL g body (x::r) e s=X:=by
 unfold forL
 rw [h]
 simp only
 rw [hb,zG]
 exact hr
section
variable {f fl fu:Ai}{e:zd}{s:aa}{xs:An}{k:Nat}
variable {ms:List Fm}{k j:Nat}{m:Fm}{s:aa}
variable {g:PV->zd->Option zd}{body:Aj}{r i n:Nat}{xs:An}{x v:PV}{e e1 e2:zd}{s s1:aa}{X:Res Fl}
variable {hs:List (Str×Nat)}{x0 x1 x2 z5:Ao}{m:Fm}{z:Str}{s:aa}
variable {Fs:List FD}{F:FD}{ms:List Fm}{k j:Nat}{m:Fm}
def k8 {f:Ai}{gt:PV->zd->Option zd}{body:Aj}{e:zd}{s s1:aa}{xs:An}{X:Res Fl}(h:f e s=.ok (.tup xs) s1) (hX:forL gt body xs e s1=X):jf (yD f) gt body e s=X:=by
 rw [pX,wv,h,zG]
 show (Res.ok (Sq.im xs) s1).bind _=_
 rw [zG]
 exact hX
def GF {f:Ai}{gt:PV->zd->Option zd}{body:Aj}{e:zd}{s s1:aa}{r:Nat}{xs:An}{X:Res Fl}(h:f e s=.ok (.ref r) s1) (hr:s1[r]?=some (.lst xs)) (hX:forR gt body r (lim+1) 0 e s1=X):jf (yD f) gt body e s=X:=by
 rw [pX,wv,h,zG,sR,yz hr,zG]
 exact hX
def Vv {f:PV}{ps:Ad}{r:An}(b:Int) (hb:0<=b) (hl:ps.length<=1000) (st:aa):x_ [.tup (f :: .tup (ps.map PV.str)::r),.int b] st=.ok (.tup ((picks (λj=>!bitAt b j) 0 ps).map PV.str)) (st++[.lst ((picks (λj=>!bitAt b j) 0 ps).map PV.str)]):=by
 have C:=uh (ft:=(kC (mB (zq n8 (ze (zc 3) (ze (zc 0) zk)))))) (fe:=zc 1) (env:=[some (.tup (f :: .tup (ps.map PV.str)::r)),some (.int b)]) (st:=st) (p:=λj=>!bitAt b j) ps 0 [] (λj z _ _=>xQ (zQ (zC (zW (zf rfl) (zf rfl)) (Gz b hb j st)))) (λj z=>zf rfl)
 rw [List.nil_append] at C
 refine zZ rfl (zY (zC (zI ?_) (by rw [wY,yz (yp _ _)])))
 unfold qq
 rw [zI (zl (zf rfl) rfl yE),zG]
 show (Res.bind (if _ then _ else _) _)=_
 rw [zx (by simp [lim];omega),zG]
 exact C
end
noncomputable def jt:List (List Nat)->List Nat
 | []=>[]
 | x::xs=>44::(x++jt xs)
noncomputable def jn:List (List Nat)->List Nat
 | []=>[]
 | x::xs=>x++jt xs
theorem Vw (ls:List (List Nat)):PySem.Txt.join ("," : Str) (ls.map S)=S (jn ls):=by
 show PySem.Builtin.Str.glued ("," : Str) (ls.map S)=_
 rw [PySem.StrLaws.glued_eq_join]
 have e0:("," : Str)=S [44]:=by decide +kernel
 rw [e0]
 induction ls with
 | nil=>rfl
 | cons c r ih =>
  cases r with
  | nil=>show S c=_;simp [jn,jt]
  | cons d r' =>
   show S c++S [44]++Str.join (S [44]) ((d::r').map S)=_
   rw [ih,qP,qP]
   simp [jn,jt]
theorem GG:∀ls:List (List Nat),strsOf (ls.map λl=>PV.str (S l))=some (ls.map S)
 | []=>rfl
 | l::ls=>by simp [strsOf,GG ls]
theorem GH:∀ls:List (List Nat),((ls.map S).map (·.length)).sum+ls.length<=(jt ls).length
 | []=>by simp [jt]
 | l::ls=>by
  have:=GH ls
  have:=oi l
  simp only [yJ,List.sum_cons,j5,jt,wo];omega
def Vx (ls:List (List Nat)):(jt ls).length<=(jn ls).length+1:=by cases ls<;>simp [jt,jn]
theorem glue {fa:Ai}{e:zd}{st s1:aa}{r:Nat}{ls:List (List Nat)}{a b:Str}{ca cb:Nat}(h:fa e st=.ok (.ref r) s1) (hr:s1[r]?=some (.lst (ls.map λl=>PV.str (S l)))) (hl:(jn ls).length<=5000) (ea:a=S [ca]) (eb:b=S [cb]) :
  (zh yH (zh yH (As a) (tD (As ",") fa)) (As b)) e st=.ok (.str (S (ca::(jn ls++[cb])))) s1:=by
 have hs:=GH ls
 have hj:=Vx ls
 have J:(tD (As ",") fa) e st=.ok (.str (S (jn ls))) s1:=by
  show (fa e st).bind _=_
  rw [h,zG]
  show yl s1 r _=_
  rw [yz hr,GG]
  have l1:("," : Str).length=1:=by decide +kernel
  simp only [jk,l1]
  rw [zx (by omega),Vw]
 subst ea eb
 have la:=oi [ca]
 have lb:=oi [cb]
 have lj:=oi (jn ls)
 refine zl (zl rfl J (ad _ _ (by rw [la,lj];simp;omega) _)) rfl ?_
 rw [ad _ _ (by rw [qP,oi,lb];simp;omega),qP,qP]
 simp
def Vy (i:Int) (st:aa):mG [.int i] st=.ok (.str "number") st:=by kernel_rfl
def Vz (xs:An) (st:aa):mG [.tup xs] st=.ok (.str "row") st:=by kernel_rfl
theorem VA:("row" : Str) ≠ "number" := by decide +kernel
theorem VB:("row" : Str) ≠ "word" := by decide +kernel
noncomputable def brk (ls:List (List Nat)):List Nat:=91::(jn ls++[93])
def w9 {α:Type}{l:List α}{n:Nat}{x:α}(h:l[n]?=some x):n<l.length:=(yv.mp h).1
theorem VC {mr:Al}{xs:An}{ls:List (List Nat)}(hl:xs.length=ls.length) (h5:(jn ls).length<=5000) (h9:xs.length<=1000) (hm:∀(i:Nat) x l,xs[i]?=some x->ls[i]?=some l->∀s,∃s1,mr [x] s=.ok (.str (S l)) s1/\Old s s1) (st:aa) :
  ∃s1,tN mr [.tup xs] st=.ok (.str (S (brk ls))) s1/\Old st s1:=by
 obtain ⟨ys,s1,R,hy,o⟩:=mI (fe:=zq mr (ze (zc 0) zk)) (env:=[some (.tup xs),some (.str "row"),none]) xs (λi ys s=>ys=((ls.take i).map λl=>PV.str (S l))/\Old st s) (λi x ys s hx ⟨h1,h2⟩=>by
  have hi:=w9 hx
  have hy:ls[i]?=some (ls[i]'(by omega)):=yo _
  obtain ⟨s1,e1,o1⟩:=hm i x _ hx hy s
  refine ⟨_,s1,zC (zI (zf rfl)) e1,?_,h2.trans o1⟩
  rw [h1,iW hy,wL];rfl) xs.length 0 [] st (by omega) ⟨rfl,Old.refl _⟩
 have C:(y8 (yD (zc 0)) (zq mr (ze (zc 0) zk))) [some (.tup xs),some (.str "row"),none] st=.ok (.ref s1.length) (s1++[.lst ys]):=by
  rw [iP]
  show eB _ _ (.im xs) st=_
  rw [kS,zx (by simp [lim];omega)]
  exact R
 have G:=glue (ls:=ls) (a := "[") (b := "]") (ca:=91) (cb:=93) C (by rw [yp,hy,hl,List.take_length]) h5 (by decide +kernel) (by decide +kernel)
 exact ⟨_,zZ rfl (zA (zU (zC (zI (zf rfl)) (Vz _ _))) (zA (yu (zQ (zl (zf rfl) rfl (cH VA _)))) (zA (yu (zQ (zl (zf rfl) rfl (cH VB _)))) (j2 (jp (zQ (zl (zf rfl) rfl (fR _))) (zY G)))))),o.trans (zR _ _)⟩
theorem GI:∀{ls:List (List Nat)}{m:Nat},(∀l∈ls,l.length<=m)->(jt ls).length<=ls.length*(m+1)
 | [],_,_=>by simp [jt]
 | l::ls,m,h=>by
  have h1:=h l (jd ..)
  have h2:=GI (ls:=ls) (m:=m) λz hz=>h z (jq _ hz)
  simp only [jt,j5,wo,Nat.add_mul];omega
def VD:∀ls:List (List Nat),(jn ls).length<=(jt ls).length
 | []=>by simp [jn,jt]
 | l::ls=>by simp [jn,jt]
def VE {ls:List (List Nat)}{m:Nat}(h:∀l∈ls,l.length<=m):(jn ls).length<=ls.length*(m+1):=y4 (VD ls) (GI h)
section
variable {e e1:zd}{st s s1 s2:aa}{f fa fb fo fi fv:Ai}{fs:Ah}{g g':Aj}{x y v:PV}{xs ys:An}{c:Str}{ks:Ad}{zs:An}{o n:Nat}
def k9 {m n:Nat}(hl:xs.length=m) (h:g (xs.map some++List.replicate (n-m) none) st=.ok (.nx e) s1):zL m n g xs st=.ok .non s1:=by
 unfold zL
 rw [zx hl,h]
 rfl
def wj {fn:Str}(h:s[o]?=some (.ins c ks xs)) (hi:insOf c=true) (hl:(ks.zip xs).lookup fn=some x):aS fn insOf excOf (.ref o) s=.ok x s:=by
 rw [DA,mh h,zx hi,hl]
 rfl
def wJ {fn:Str}(hv:fv e s=.ok x s1) (ho:fo e s1=.ok (.ref o) s1) (h:s1[o]?=some (.ins c ks xs)) (hi:insOf c=true) (hl:ks.length<1000):sFld fn insOf fo fv e s=.ok (.nx e) (s1.set o (.ins c (Mi.putK fn x ks xs).1 (Mi.putK fn x ks xs).2)):=by
 rw [Oz,hv,zG,ho,zG]
 show (yV s1 o _).bind _=_
 rw [mh h,zx ⟨hi,hl⟩,zG]
def iZ {name:Str}{tab:Str->Option (Al)}{m:Al}{X:Res PV}(ho:fo e s=.ok (.ref o) s1) (h:s1[o]?=some (.ins c ks xs)) (hn:name∉ks) (ht:tab c=some m) (hf:fs e s1=.ok ys s2) (hm:m (.ref o::ys) s2=X):y3 name tab fo fs e s=X:=by
 unfold y3
 rw [ho,zG]
 show yV s1 o _=_
 unfold yV
 rw [h]
 simp only
 rw [zH hn,ht]
 simp only
 rw [hf,zG,hm]
def GJ {old:Am}{neg:Bool}{k:List Key}{kk:Ag}(hz:cJ zs=some k) (h:bR s[n]?=some (kk,xs)):cA old neg (.tup zs) (.ref n) s=.ok (.bl (neg.xor (cq k kk))) (s.set n (.dit kk xs)):=by
 unfold cA
 simp only [hz,h]
def AX {old:Am}{k:List Key}{kk:Ag}(hz:cJ zs=some k) (h:bR s[n]?=some (kk,xs)) (hl:g_ k kk xs=some x):aP old (.ref n) (.tup zs) s=.ok x (s.set n (.dit kk xs)):=by
 unfold aP
 simp only [hz,h,hl]
 rfl
def GK {k:List Key}{kk:Ag}(hv:fv e s=.ok x s1) (ho:fo e s1=.ok (.ref n) s1) (hi:fi e s1=.ok (.tup zs) s1) (hz:cJ zs=some k) (h:bR s1[n]?=some (kk,xs)) (hn:cq k kk=false) (hl:kk.length<1000000) :
  iR fo fi fv e s=.ok (.nx e) (s1.set n (.dit (kk++[k]) (xs++[x]))):=by
 unfold iR
 rw [hv,zG,ho,zG,hi,zG]
 have P:iQ (.tup zs) x (.ref n) s1=.ok () (s1.set n (.dit (kk++[k]) (xs++[x]))):=by
  unfold iQ
  simp only [hz,h]
  rw [zx (by simpa [lim] using hl)]
  unfold ww
  rw [hn]
  rfl
 rw [P,zG]
def AY {i:Int}:aP zm (.tup xs) (.int i) s=zm (.tup xs) (.int i) s:=(rfl)
def bp (h:s[n]?=some (.lst xs)):yx [.ref n] s=.ok (.int xs.length) s:=by
 unfold yx
 simp only [h]
 rw [Ol,yz h]
def qQ (i j:Int) (b:Bool) (h:(i==j)=b) (st:aa):nY (.int i) (.int j) st=.ok (.bl b) st:=by subst h;rfl
def qR {so:SO}(h:s[n]?=some so):s.set n so=s:=by
 obtain ⟨hn,rfl⟩:=yv.mp h
 exact List.set_getElem_self hn
end
noncomputable abbrev nV (n:Nat):PV:=.int (n:Int)
def GL {i:Int}(h:i.natAbs<10 ^ 18):i.natAbs.log2<60:=by
 have h1:i.natAbs<2 ^ 60:=Nat.lt_trans h (by decide)
 by_cases hz:i.natAbs=0
 ·rw [hz];decide
 ·exact (Nat.log2_lt hz).mpr h1
noncomputable def qS (i:Int):List Nat:=(Str.ofString (toString i)).cps.toList
def Sh (v:PV) (l:List Nat):Prop:=l.length<=70/\∀mr st,tN mr [v] st=.ok (.str (S l)) st
theorem VF {i:Int}(h:i.natAbs<10 ^ 18):Sh (.int i) (qS i):=by
 have e:Str.ofString (toString i)=S (qS i):=(Ge _).symm
 refine ⟨?_,λmr st=>?_⟩
 ·have l:=int_text_length_le (a:=i) (k:=60) (by decide) (GL h)
  have:=oi (qS i)
  rw [<-e,ofString_length] at this
  omega
 ·have x:p8 [.int i] st=.ok (.str (S (qS i))) st:=by
   rw [O5,zx (Nat.lt_trans (GL h) (by decide)),<-e]
  exact zZ rfl (zA (zU (zC (zI (zf rfl)) (Vy _ _))) (j2 (jp (zQ (zl (zf rfl) rfl (fR _))) (zY (zC (zI (zf rfl)) x)))))
theorem VG {vs:An}{ls:List (List Nat)}(hl:vs.length=ls.length) (h6:vs.length<=6) (h:∀(i:Nat) v l,vs[i]?=some v->ls[i]?=some l->Sh v l) (st:aa):∃s1,kW 4 [.tup vs] st=.ok (.str (S (brk ls))) s1/\Old st s1:=by
 refine VC hl ?_ (by omega) (λi v l hv oO s=>?_) st
 ·have q:=VE (ls:=ls) (m:=70) λl oO=>by
   obtain ⟨i,hi⟩:=List.getElem?_of_mem oO
   have:=w9 hi
   exact (h i _ l (yo (by omega)) hi).1
  omega
 ·exact ⟨s,(h i v l hv oO).2 _ s,Old.refl _⟩
noncomputable abbrev mL (L M N:Nat):SO:=.ins "KeyRing" ["limit", "met", "names"] [nV L,.ref M,.ref N]
noncomputable abbrev cf (f:Str) (b:Int) (vs:An):PV:=.tup [.str f,.int b,.tup vs]
noncomputable abbrev ou (f:Str) (b:Int) (z:Str):An:=[.str f,.int b,.str z]
noncomputable abbrev eG (f:Str) (b:Int) (z:Str):List Key:=[.inr f,.inl b,.inr z]
structure R0 (L r M N:Nat) (s:aa):Prop where
 at_:s[r]?=some (mL L M N)
 met:s[M]?=some (.lst [])
 nms:s[N]?=some (.dic [] [])
 rM:r≠M
 rN:r≠N
 MN:M≠N
structure R1 (f:Str) (b:Int) (vs:An) (z:Str) (L r M N:Nat) (s:aa):Prop where
 at_:s[r]?=some (mL L M N)
 met:s[M]?=some (.lst [cf f b vs])
 nms:s[N]?=some (.dit [eG f b z] [.str "q0"])
section
variable {f z:Str}{b:Int}{vs:An}{L r M N:Nat}{s s1 s':aa}
def R0.old (h:R0 L r M N s) (o:Old s s'):R0 L r M N s':=⟨o _ _ h.at_,o _ _ h.met,o _ _ h.nms,h.rM,h.rN,h.MN⟩
def R1.old (h:R1 f b vs z L r M N s) (o:Old s s'):R1 f b vs z L r M N s':=⟨o _ _ h.at_,o _ _ h.met,o _ _ h.nms⟩
def GN {X:Res Fl}(E:kW 4 [.tup vs] s=.ok (.str z) s1) (h:FP [Au r,some (cf f b vs),some (.tup (ou f b z)),none] s1=X) :
  FQ [Au r,some (cf f b vs),none,none] s=X :=
 zA (zU (yB (wH (zl (zf rfl) rfl (AY.trans yG)) (zl (zf rfl) rfl (AY.trans yE)) (zC (zI (zl (zf rfl) rfl (AY.trans wx))) E)) (by simp))) h
theorem VH (hs:∀s,∃s1,kW 4 [.tup vs] s=.ok (.str z) s1/\Old s s1) (G:R1 f b vs z L r M N s):∃s1,m_KeyRing_name_for [.ref r,cf f b vs] s=.ok (.str "q0") s1/\Old s s1:=by
 obtain ⟨s1,E,o⟩:=hs s
 have G1:=G.old o
 have ra:bR s1[N]?=some ([eG f b z],[.str "q0"]):=by rw [G1.nms];rfl
 have I:=GJ (old:=yt true) (neg:=true) (zs:=ou f b z) (k:=eG f b z) rfl ra
 have hh:cq (eG f b z) [eG f b z]=true:=Qi.mpr (jy.mpr rfl)
 rw [hh,qR G1.nms] at I
 have J:=AX (old:=zm) (zs:=ou f b z) (k:=eG f b z) (x:=.str "q0") rfl ra (by unfold g_;rw [zx rfl])
 rw [qR G1.nms] at J
 have F:aS "names" insOf excOf (.ref r) s1=.ok (.ref N) s1:=wj G1.at_ (by decide +kernel) rfl
 exact ⟨s1,zZ rfl (GN E (zA (yu (zQ (zl (zf rfl) (yX (zf rfl) F) I))) (zY (zl (yX (zf rfl) F) (zf rfl) J)))),o⟩
theorem VI (st:aa):x5 "q" (.int 0) st=.ok (.str "q0") st:=by
 have e:("q" ++ Str.ofString (toString (0:Int)):Str) = "q0" := by decide +kernel
 have c:(0:Int).natAbs.log2<1920/\("q" ++ Str.ofString (toString (0:Int)):Str).length<=1000:=by decide +kernel
 exact (zx (e:=Res.stuck) c).trans (congrArg (λz=>Res.ok (PV.str z) st) e)
theorem VJ (hs:∀s,∃s1,kW 4 [.tup vs] s=.ok (.str z) s1/\Old s s1) (hL:0<L) (G:R0 L r M N s):∃s1,m_KeyRing_name_for [.ref r,cf f b vs] s=.ok (.str "q0") s1/\R1 f b vs z L r M N s1/\∀(m:Nat) so,m≠M->m≠N->s[m]?=some so->s1[m]?=some so:=by
 obtain ⟨s1,E,o⟩:=hs s
 have G1:=G.old o
 have ra:bR s1[N]?=some ([],[]):=by rw [G1.nms];rfl
 have I:=GJ (old:=yt true) (neg:=true) (zs:=ou f b z) (k:=eG f b z) rfl ra
 have hh:cq (eG f b z) []=false:=rfl
 rw [hh] at I
 have lN:=yb G1.nms
 have a2:(s1.set N (.dit [] []))[r]?=some (mL L M N):=by rw [yh (yC G.rN)];exact G1.at_
 have m2:(s1.set N (.dit [] []))[M]?=some (.lst []):=by rw [yh (yC G.MN)];exact G1.met
 have d2:(s1.set N (.dit [] []))[N]?=some (.dit [] []):=yM lN
 have k2:∀(m:Nat) so,m≠N->s1[m]?=some so->(s1.set N (.dit [] []))[m]?=some so:=λm so q e=>by rw [yh (yC q)];exact e
 generalize s1.set N (.dit [] [])=s2 at I a2 m2 d2 k2
 have A:=iX (y:=cf f b vs) m2 (by simp)
 have a3:(s2.set M (.lst ([]++[cf f b vs])))[r]?=some (mL L M N):=by rw [yh (yC G.rM)];exact a2
 have m3:(s2.set M (.lst ([]++[cf f b vs])))[M]?=some (.lst [cf f b vs]):=yM (yb m2)
 have d3:(s2.set M (.lst ([]++[cf f b vs])))[N]?=some (.dit [] []):=by rw [yh G.MN];exact d2
 have k3:∀(m:Nat) so,m≠M->s2[m]?=some so->(s2.set M (.lst ([]++[cf f b vs])))[m]?=some so:=λm so q e=>by rw [yh (yC q)];exact e
 generalize s2.set M (.lst ([]++[cf f b vs]))=s3 at A a3 m3 d3 k3
 have P:=GK (e:=[Au r,some (cf f b vs),some (.tup (ou f b z)),some (.int 0)]) (yX (fa:=zc 3) (zf rfl) (VI s3)) (yX (fa:=zc 0) (zf rfl) (wj a3 (by decide +kernel) rfl:aS "names" insOf excOf (.ref r) s3=.ok (.ref N) s3)) (fi:=zc 2) (zf rfl) (k:=eG f b z) rfl (show bR s3[N]?=some ([],[]) by rw [d3];rfl) hh (by simp)
 rw [List.nil_append,List.nil_append] at P
 have VL:=yb d3
 have a4:(s3.set N (.dit [eG f b z] [.str "q0"]))[r]?=some (mL L M N):=by rw [yh (yC G.rN)];exact a3
 have m4:(s3.set N (.dit [eG f b z] [.str "q0"]))[M]?=some (.lst [cf f b vs]):=by rw [yh (yC G.MN)];exact m3
 have d4:(s3.set N (.dit [eG f b z] [.str "q0"]))[N]?=some (.dit [eG f b z] [.str "q0"]):=yM VL
 have k4:∀(m:Nat) so,m≠N->s3[m]?=some so->(s3.set N (.dit [eG f b z] [.str "q0"]))[m]?=some so:=λm so q e=>by rw [yh (yC q)];exact e
 generalize s3.set N (.dit [eG f b z] [.str "q0"])=s4 at P a4 m4 d4 k4
 have J:=AX (old:=zm) (zs:=ou f b z) (k:=eG f b z) (x:=.str "q0") rfl (show bR s4[N]?=some ([eG f b z],[.str "q0"]) by rw [d4];rfl) (by unfold g_;rw [zx rfl])
 rw [qR d4] at J
 have F2:∀{f x},(((["limit", "met", "names"]:Ad).zip [nV L,.ref M,.ref N]).lookup f=some x)->aS f insOf excOf (.ref r) s2=.ok x s2:=λh=>wj a2 (by decide +kernel) h
 have ln:yx [.ref M] s2=.ok (.int 0) s2:=bp m2
 exact ⟨s4,zZ rfl (GN E (zA (jp (zQ (zl (zf rfl) (yX (zf rfl) (wj G1.at_ (by decide +kernel) rfl)) I)) (zA (zU (zC (zI (yX (zf rfl) (F2 rfl))) ln)) (zA (yu (zQ (zl (zf rfl) (yX (zf rfl) (F2 rfl)) (qQ _ _ false (by simp;omega) _)))) (zA (wF (wZ (yX (zf rfl) (F2 rfl)) m2 (zf rfl) A)) P)))) (zY (zl (yX (zf rfl) (wj a4 (by decide +kernel) rfl)) (zf rfl) J)))),⟨a4,m4,d4⟩,λm so q1 q2 e=>k4 _ _ q2 (k3 _ _ q1 (k2 _ _ q2 (o _ _ e)))⟩
end
theorem VM (L:Nat) (st:aa):∃s1,bI "KeyRing" qx [nV L] st=.ok (.ref st.length) s1/\R0 L st.length (st.length+1) (st.length+2) s1/\Old st s1:=by
 let r:=st.length
 let t0:=st++[SO.ins "KeyRing" [] []]
 have h0:t0[r]?=some (.ins "KeyRing" [] []):=yp _ _
 let t1:=t0.set r (.ins "KeyRing" ["limit"] [nV L])
 have h1:t1[r]?=some (.ins "KeyRing" ["limit"] [nV L]):=yM (yb h0)
 have l1:t1.length=r+1:=by simp [t1,t0,r]
 let t2:=t1++[SO.lst []]
 have h2:t2[r]?=some (.ins "KeyRing" ["limit"] [nV L]):=zR _ _ _ _ h1
 let t3:=t2.set r (.ins "KeyRing" ["limit", "met"] [nV L,.ref t1.length])
 have h3:t3[r]?=some (.ins "KeyRing" ["limit", "met"] [nV L,.ref t1.length]):=yM (yb h2)
 have l3:t3.length=r+2:=by simp [t3,t2,l1]
 let t4:=t3++[SO.dic [] []]
 have h4:t4[r]?=some (.ins "KeyRing" ["limit", "met"] [nV L,.ref t1.length]):=zR _ _ _ _ h3
 let t5:=t4.set r (mL L t1.length t3.length)
 have E:qx [.ref r,nV L] t0=.ok .non t5:=k9 rfl (zA (wJ (zf rfl) (zf rfl) h0 (by decide +kernel) (by decide)) (zA (wJ (we j3 (by simp)) (zf rfl) h2 (by decide +kernel) (by decide)) (wJ (x:=.ref t3.length) (s1:=t4) rfl (zf rfl) h4 (by decide +kernel) (by decide))))
 refine ⟨t5,?_,⟨?_,?_,?_,by omega,by omega,by omega⟩,λk so e=>?_⟩
 ·show (qx [.ref r,nV L] t0).bind _=_
  rw [E,zG]
  rfl
 ·show (t4.set r _)[r]?=_
  rw [yM (yb h4),l1,l3]
 ·show (t4.set r _)[r+1]?=_
  rw [yh (by omega)]
  refine zR _ _ _ _ ?_
  show (t2.set r _)[r+1]?=_
  rw [yh (by omega),<-l1]
  exact yp _ _
 ·show (t4.set r _)[r+2]?=_
  rw [yh (by omega),<-l3]
  exact yp _ _
 ·have hk:=yb e
  have hr:r≠k:=by show st.length≠k;omega
  show (t4.set r _)[k]?=_
  rw [yh hr]
  refine zR _ _ _ _ ?_
  show (t2.set r _)[k]?=_
  rw [yh hr]
  refine zR _ _ _ _ ?_
  show (t0.set r _)[k]?=_
  rw [yh hr]
  exact zR _ _ _ _ e
def um (st:aa) (a b:SO):(st++[a]).set st.length b=st++[b]:=by simp
noncomputable abbrev mM (v:PV):SO:=.ins "Known" ["value"] [v]
noncomputable abbrev k_ (z:Str):SO:=.ins "Later" ["name"] [.str z]
theorem AZ (v:PV) (st:aa):bI "Known" iU [v] st=.ok (.ref st.length) (st++[mM v]):=by
 have E:iU [.ref st.length,v] (st++[SO.ins "Known" [] []])=.ok .non ((st++[SO.ins "Known" [] []]).set st.length (mM v)):=k9 rfl (wJ (zf rfl) (zf rfl) (yp _ _) (by decide +kernel) (by decide))
 show (iU [.ref st.length,v] (st++[SO.ins "Known" [] []])).bind _=_
 rw [E,zG,um]
 rfl
theorem GO (z:Str) (st:aa):bI "Later" kX [.str z] st=.ok (.ref st.length) (st++[k_ z]):=by
 have E:kX [.ref st.length,.str z] (st++[SO.ins "Later" [] []])=.ok .non ((st++[SO.ins "Later" [] []]).set st.length (k_ z)):=k9 rfl (wJ (zf rfl) (zf rfl) (yp _ _) (by decide +kernel) (by decide))
 show (kX [.ref st.length,.str z] (st++[SO.ins "Later" [] []])).bind _=_
 rw [E,zG,um]
 rfl
def Kx (ms:List Nat) (s s':aa):Prop:=∀(m:Nat) so,m∉ms->s[m]?=some so->s'[m]?=some so
def Kx.refl (ms:List Nat) (s:aa):Kx ms s s:=λ_ _ _ e=>e
def Kx.trans {ms:List Nat}{a b c:aa}(h:Kx ms a b) (h':Kx ms b c):Kx ms a c:=λm so q e=>h' m so q (h m so q e)
def Old.kx {ms:List Nat}{s s':aa}(h:Old s s'):Kx ms s s':=λm so _ e=>h m so e
def jQ {ms:List Nat}{s:aa}{n:Nat}{so:SO}(h:n∈ms):Kx ms s (s.set n so):=λm x q e=>by
 have ne:n≠m:=λz=>q (z▸h)
 rw [yh ne];exact e
def KI (s s':aa):Prop:=∀(q:Nat) c ks xs,s[q]?=some (.ins c ks xs)->s'[q]?=some (.ins c ks xs)
def KI.trans {a b c:aa}(h:KI a b) (h':KI b c):KI a c:=λq x y z e=>h' _ _ _ _ (h q x y z e)
def Old.ki {s s':aa}(h:Old s s'):KI s s':=λq _ _ _ e=>h q _ e
def GP {s:aa}{n:Nat}{so nJ:SO}(h:s[n]?=some so) (hn:∀c ks xs,so ≠ .ins c ks xs):KI s (s.set n nJ):=λq c ks xs e=>by
 have ne:n≠q:=λz=>by subst z;rw [h] at e;cases e;exact hn _ _ _ rfl
 rw [yh ne];exact e
abbrev Ev:=List (Str×Option PV)
noncomputable def obj (z:Str):Option PV->SO
 | none=>k_ z
 | some y=>mM y
def Th (s:aa):Ev->List PV->Prop
 | [],vs=>vs=[]
 | (z,x)::E,vs=>∃q r,vs=.ref q::r/\s[q]?=some (obj z x)/\Th s E r
def GQ (z:Str) (x:Ao):∃c ks xs,obj z x=.ins c ks xs:=by cases x<;>exact ⟨_,_,_,rfl⟩
theorem Th.ki {s s':aa}(k:KI s s'):∀{E:Ev}{vs:An},Th s E vs->Th s' E vs
 | [],_,h=>h
 | (z,x)::E,_,h=>by
  obtain ⟨q,r,e,h1,h2⟩:=h
  obtain ⟨c,ks,xs,eo⟩:=GQ z x
  exact ⟨q,r,e,by rw [eo] at h1 ⊢;exact k _ _ _ _ h1,Th.ki k h2⟩
theorem Th.snoc {s:aa}{z:Str}{x:Ao}{q:Nat}(hq:s[q]?=some (obj z x)):∀{E:Ev}{vs:An},Th s E vs->Th s (E++[(z,x)]) (vs++[.ref q])
 | [],_,h=>by rw [show _=[] from h];exact ⟨q,[],rfl,hq,rfl⟩
 | (z',x')::E,_,h=>by
  obtain ⟨q',r,e,h1,h2⟩:=h
  rw [e]
  exact ⟨q',_,rfl,h1,Th.snoc hq h2⟩
theorem Th.get {s:aa}{z:Str}{x:Ao}:∀{E:Ev}{vs:An},Th s E vs->E.lookup z=some x->∃q,((E.map (·.1)).zip vs).lookup z=Au q/\s[q]?=some (obj z x)
 | [],_,_,h=>by cases h
 | (z',x')::E,_,h,hl=>by
  obtain ⟨q',r,e,h1,h2⟩:=h
  rw [e,yJ,List.zip_cons_cons,yO]
  rw [yO] at hl
  cases hz:z==z' with
  | true =>
   rw [hz] at hl
   cases hl
   have:z=z':=by simpa using hz
   subst this
   exact ⟨q',rfl,h1⟩
  | false =>
   rw [hz] at hl
   exact Th.get h2 hl
def Tg (T:Nat) (E:Ev) (s:aa):Prop:=∃vs,s[T]?=some (.dic (E.map (·.1)) vs)/\Th s E vs
def Tg.old {T:Nat}{E:Ev}{s s':aa}(h:Tg T E s) (o:Old s s'):Tg T E s':=by
 obtain ⟨vs,a,b⟩:=h
 exact ⟨vs,o _ _ a,b.ki o.ki⟩
def Tg.kx {T:Nat}{ms:List Nat}{E:Ev}{s s':aa}(h:Tg T E s) (o:Kx ms s s') (k:KI s s') (hT:T∉ms):Tg T E s':=by
 obtain ⟨vs,a,b⟩:=h
 exact ⟨vs,o _ _ hT a,b.ki k⟩
def Tg.put {T:Nat}{E:Ev}{s:aa}{z:Str}(h:Tg T E s) (hz:z∉E.map (·.1)) (x:Ao):∃vs,s[T]?=some (.dic (E.map (·.1)) vs)/\jT z (.ref s.length) (E.map (·.1)) vs=(E.map (·.1)++[z],vs++[.ref s.length]) /\
  Tg T (E++[(z,x)]) ((s++[obj z x]).set T (.dic (E.map (·.1)++[z]) (vs++[.ref s.length])))/\KI s ((s++[obj z x]).set T (.dic (E.map (·.1)++[z]) (vs++[.ref s.length])))/\Kx [T] s ((s++[obj z x]).set T (.dic (E.map (·.1)++[z]) (vs++[.ref s.length]))):=by
 obtain ⟨vs,a,b⟩:=h
 have a1:(s++[obj z x])[T]?=some (.dic (E.map (·.1)) vs):=zR _ _ _ _ a
 have k2:KI (s++[obj z x]) ((s++[obj z x]).set T (.dic (E.map (·.1)++[z]) (vs++[.ref s.length]))):=GP a1 (by intro _ _ _ q;cases q)
 have k1:KI s (s++[obj z x]):=(zR _ _).ki
 obtain ⟨c,ks,xs,eo⟩:=GQ z x
 refine ⟨vs,a,oo hz,⟨vs++[.ref s.length],?_,?_⟩,k1.trans k2,(zR _ _).kx.trans (jQ (by simp))⟩
 ·rw [yM (yb a1)];simp
 ·refine Th.snoc ?_ (b.ki (k1.trans k2))
  have t:(s++[obj z x])[s.length]?=some (obj z x):=yp _ _
  rw [eo] at t k2 ⊢
  exact k2 _ _ _ _ t
def lh {fo fi fv:Ai}{e:zd}{s s1:aa}{r:Nat}{z:Str}{x:PV}{ks b_:Ad}{xs cM:An}(hd:jT z x ks xs=(b_,cM)) (hv:fv e s=.ok x s1) (ho:fo e s1=.ok (.ref r) s1) (hi:fi e s1=.ok (.str z) s1) (hr:s1[r]?=some (.dic ks xs)) (hl:ks.length<=1000) :
  jD fo fi fv e s=.ok (.nx e) (s1.set r (.dic b_ cM)):=by
 have h:=Gg hv ho hi hr hl
 rw [hd] at h
 exact h
noncomputable abbrev A0 (r La T:Nat) (gs:PV):SO:=.ins "Making" ["ring", "later", "goals", "things"] [.ref r,.ref La,gs,.ref T]
structure Mg (lt:Ad) (o La T:Nat) (E:Ev) (s:aa):Prop where
 ob:∃r gs,s[o]?=some (A0 r La T gs)
 la:s[La]?=some (.dic lt (cx lt))
 th:Tg T E s
 ne:La≠T
section
variable {lt:Ad}{o La T:Nat}{E:Ev}{s s':aa}
def Mg.old (h:Mg lt o La T E s) (k:Old s s'):Mg lt o La T E s':=by
 obtain ⟨r,gs,e⟩:=h.ob
 exact ⟨⟨r,gs,k _ _ e⟩,k _ _ h.la,h.th.old k,h.ne⟩
def Mg.kx {ms:List Nat}(h:Mg lt o La T E s) (k:Kx ms s s') (i:KI s s') (h1:La∉ms) (h2:T∉ms):Mg lt o La T E s':=by
 obtain ⟨r,gs,e⟩:=h.ob
 exact ⟨⟨r,gs,i _ _ _ _ e⟩,k _ _ h1 h.la,h.th.kx k i h2,h.ne⟩
def Mg.put {z:Str}{x:Ao}{vs:An}{t:aa}(h:Mg lt o La T E s) (ht:t=(s++[obj z x]).set T (.dic (E.map (·.1)++[z]) (vs++[.ref s.length]))) (g:Tg T (E++[(z,x)]) t) (i:KI s t) (k:Kx [T] s t):Mg lt o La T (E++[(z,x)]) t:=by
 obtain ⟨r,gs,e⟩:=h.ob
 exact ⟨⟨r,gs,i _ _ _ _ e⟩,k _ _ (by simpa using h.ne) h.la,g,h.ne⟩
theorem oy (h:Mg lt o La T E s):aS "things" insOf excOf (.ref o) s=.ok (.ref T) s:=by
 obtain ⟨r,gs,e⟩:=h.ob
 exact wj e (by decide +kernel) rfl
end
def VN {fs:Ah}{gt:PV->zd->Option zd}{body:Aj}{e:zd}{s s1:aa}{xs ys:An}{X:Res Fl}(h:fs e s=.ok [.tup xs,.tup ys] s1) (hX:forL gt body (wb xs ys) e s1=X):jf (nR fs) gt body e s=X:=by
 rw [pX,Oy,h,zG]
 show (Res.ok (Sq.im (wb xs ys)) s1).bind _=_
 rw [zG]
 exact hX
noncomputable abbrev e9 (kp:List (Str×PV)):Ev:=kp.map λp=>(p.1,some p.2)
noncomputable abbrev fS (ls:Ad):Ev:=ls.map λz=>(z,none)
theorem GR:∀kp:List (Str×PV),wb ((kp.map (·.1)).map PV.str) (kp.map (·.2))=kp.map λp=>.tup [.str p.1,p.2]
 | []=>rfl
 | p::kp=>by
  have:=GR kp
  unfold wb at this ⊢
  simp only [yJ,List.zip_cons_cons,this]
noncomputable abbrev bK:Aj:=(jD (yg (aS "things" insOf excOf) (zc 0)) (zc 5) (zq (bI "Known" iU) (ze (zc 6) zk)))
noncomputable abbrev bL:Aj:=(jD (yg (aS "things" insOf excOf) (zc 0)) (zc 5) (zq (bI "Later" kX) (ze (zc 5) zk)))
noncomputable abbrev eK (o r:Nat) (fv fm vs:PV) (z5 z6:Ao):zd:=[Au o,Au r,some fv,some fm,some vs,z5,z6]
theorem VO {l:Ad}{K:Ad}(nd:(K++l).Nodup) {i:Nat}{z:Str}(hz:l[i]?=some z):z∉K++l.take i:=λhm=>by
 have h1:(K++l)[K.length+i]?=some z:=by rw [ic (by omega)];simpa using hz
 have h2:K++l.take i=(K++l).take (K.length+i):=by rw [List.take_length_add_append]
 rw [h2] at hm
 exact GA nd h1 hm
def GS (kp:List (Str×PV)):(e9 kp).map (·.1)=kp.map (·.1):=by simp [e9]
def VP (ls:Ad):(fS ls).map (·.1)=ls:=by unfold fS;rw [List.map_map];exact List.map_id ls
def VQ {kp:List (Str×PV)}{i:Nat}{p:Str×PV}(h:kp[i]?=some p):e9 (kp.take i)++[(p.1,some p.2)]=e9 (kp.take (i+1)):=by rw [iW h];simp [e9]
def VR {ls:Ad}{i:Nat}{z:Str}(h:ls[i]?=some z):fS (ls.take i)++[(z,none)]=fS (ls.take (i+1)):=by rw [iW h];simp [fS]
section
variable {lt:Ad}{o r La T:Nat}{fv fm vs:PV}{E:Ev}{s:aa}{z:Str}
def VS (M:Mg lt o La T E s) (hz:z∉E.map (·.1)) (hl:E.length<=1000) (v:PV):∃t,bK (eK o r fv fm vs (some (.str z)) (some v)) s=.ok (.nx (eK o r fv fm vs (some (.str z)) (some v))) t/\Mg lt o La T (E++[(z,some v)]) t/\Kx [T] s t:=by
 obtain ⟨us,hT,hd,g,i,k⟩:=M.th.put hz (some v)
 have o1:Old s (s++[mM v]):=zR _ _
 exact ⟨_,lh hd (s1:=s++[mM v]) (zC (zI (zf rfl)) (AZ v s)) (yX (zf rfl) (oy (M.old o1))) (zf rfl) (o1 _ _ hT) (by simpa using hl),M.put rfl g i k,k⟩
def VT (M:Mg lt o La T E s) (hz:z∉E.map (·.1)) (hl:E.length<=1000) {z6:Ao}:∃t,bL (eK o r fv fm vs (some (.str z)) z6) s=.ok (.nx (eK o r fv fm vs (some (.str z)) z6)) t/\Mg lt o La T (E++[(z,none)]) t/\Kx [T] s t:=by
 obtain ⟨us,hT,hd,g,i,k⟩:=M.th.put hz none
 have o1:Old s (s++[k_ z]):=zR _ _
 exact ⟨_,lh hd (s1:=s++[k_ z]) (zC (zI (zf rfl)) (GO z s)) (yX (zf rfl) (oy (M.old o1))) (zf rfl) (o1 _ _ hT) (by simpa using hl),M.put rfl g i k,k⟩
end
theorem VU {f gs:PV}{nz:Str}{ps lt:Ad}{rest:An}{b:Int}(hb:0<=b) {kp:List (Str×PV)}(hk:picks (λj=>!bitAt b j) 0 ps=kp.map (·.1)) (hp:ps.length<=100) (bw:lt.Nodup) (hl:lt.length<=1000) (nd:(kp.map (·.1)++picks (bitAt b) 0 ps).Nodup) (r:Nat) (st:aa) :
  ∃La T s1,bI "Making" qy [.ref r,.tup (f :: .tup (ps.map PV.str)::rest),.tup [.str nz,.int b,.tup (lt.map PV.str),gs],.tup (kp.map (·.2))] st=.ok (.ref st.length) s1/\Mg lt st.length La T (e9 kp++fS (picks (bitAt b) 0 ps)) s1/\st.length<La/\La<T/\Old st s1:=by
 have lk:kp.length<=100:=by
  have:(kp.map (·.1)).length<=ps.length:=by rw [<-hk];exact wg.length_le
  rw [jk] at this;omega
 have ll:(picks (bitAt b) 0 ps).length<=100:=by have:(picks (bitAt b) 0 ps).length<=ps.length:=wg.length_le;omega
 generalize hfv:PV.tup (f :: .tup (ps.map PV.str)::rest)=fv
 generalize hfm:PV.tup [.str nz,.int b,.tup (lt.map PV.str),gs]=fm
 let o:=st.length
 let t0:=st++[SO.ins "Making" [] []]
 have h0:t0[o]?=some (.ins "Making" [] []):=yp _ _
 have l0:t0.length=o+1:=by simp [t0,o]
 let t1:=t0.set o (.ins "Making" ["ring"] [.ref r])
 have h1:t1[o]?=some (.ins "Making" ["ring"] [.ref r]):=yM (yb h0)
 have l1:t1.length=o+1:=by simp [t1,l0]
 obtain ⟨t2,E2,d2,o2⟩:=uf lt bw hl t1
 have h2:=o2 _ _ h1
 let t3:=t2.set o (.ins "Making" ["ring", "later"] [.ref r,.ref t1.length])
 have h3:t3[o]?=some (.ins "Making" ["ring", "later"] [.ref r,.ref t1.length]):=yM (yb h2)
 let t4:=t3.set o (.ins "Making" ["ring", "later", "goals"] [.ref r,.ref t1.length,gs])
 have h4:t4[o]?=some (.ins "Making" ["ring", "later", "goals"] [.ref r,.ref t1.length,gs]):=yM (yb h3)
 have d4:t4[t1.length]?=some (.dic lt (cx lt)):=by
  show ((t2.set o _).set o _)[t1.length]?=_
  rw [yh (by omega),yh (by omega)];exact d2
 have lT:t1.length<t4.length:=yb d4
 let T:=t4.length
 let t5:=t4++[SO.dic [] []]
 have h5:t5[o]?=some (.ins "Making" ["ring", "later", "goals"] [.ref r,.ref t1.length,gs]):=zR _ _ _ _ h4
 have T5:t5[T]?=some (.dic [] []):=yp _ _
 let t6:=t5.set o (A0 r t1.length T gs)
 have h6:t6[o]?=some (A0 r t1.length T gs):=yM (yb h5)
 have T6:t6[T]?=some (.dic [] []):=by rw [yh (by omega)];exact T5
 have d6:t6[t1.length]?=some (.dic lt (cx lt)):=by rw [yh (by omega)];exact zR _ _ _ _ d4
 have k6:Old st t6:=λm so e=>by
  have hm:=yb e
  have ne:o≠m:=by show st.length≠m;omega
  show (t5.set o _)[m]?=_
  rw [yh ne]
  refine zR _ _ _ _ ?_
  show ((t2.set o _).set o _)[m]?=_
  rw [yh ne,yh ne]
  refine o2 _ _ ?_
  show (t0.set o _)[m]?=_
  rw [yh ne]
  exact zR _ _ _ _ e
 let t7:=t6++[SO.lst ((picks (λj=>!bitAt b j) 0 ps).map PV.str)]
 have M7:Mg lt o t1.length T (e9 (kp.take 0)) t7:=(show Mg lt o t1.length T [] t6 from ⟨⟨_,_,h6⟩,d6,⟨[],T6,rfl⟩,by omega⟩).old (zR _ _)
 obtain ⟨e8,t8,F8,⟨y5,y6,VV⟩,M8,K8⟩:=dr (g:=g2 5 6) (body:=bK) (kp.map λp=>PV.tup [.str p.1,p.2]) (λi e s=>(∃z5 z6,e=eK o r fv fm (.tup (kp.map (·.2))) z5 z6)/\Mg lt o t1.length T (e9 (kp.take i)) s/\Kx [T] t7 s) (λi x e s hx ⟨⟨z5,z6,he⟩,M,K⟩=>by
  subst he
  rw [yZ] at hx
  obtain ⟨p,hp',rfl⟩:=Option.map_eq_some_iff.mp hx
  have zn:p.1∉(e9 (kp.take i)).map (·.1):=by
   rw [GS,List.map_take]
   exact GA (List.nodup_append.mp nd).1 (by rw [yZ,hp'];rfl)
  obtain ⟨t,E,M',K'⟩:=VS (r:=r) (fv:=fv) (fm:=fm) (vs:=.tup (kp.map (·.2))) M zn (by simp;omega) p.2
  rw [VQ hp'] at M'
  exact ⟨_,_,t,rfl,E,⟨_,_,rfl⟩,M',K.trans K'⟩) kp.length 0 (eK o r fv fm (.tup (kp.map (·.2))) none none) t7 (by simp) ⟨⟨none,none,rfl⟩,M7,Kx.refl _ _⟩
 subst VV
 rw [jk,List.take_length] at M8
 let t9:=t8++[SO.lst ((picks (bitAt b) 0 ps).map PV.str)]
 have M9:Mg lt o t1.length T (e9 kp++fS ((picks (bitAt b) 0 ps).take 0)) t9:=by simpa [fS] using M8.old (zR _ _)
 obtain ⟨YM,GU,GV,⟨w5,w6,GW⟩,GX,VW⟩:=dr (g:=gN 5) (body:=bL) ((picks (bitAt b) 0 ps).map PV.str) (λi e s=>(∃z5 z6,e=eK o r fv fm (.tup (kp.map (·.2))) z5 z6)/\Mg lt o t1.length T (e9 kp++fS ((picks (bitAt b) 0 ps).take i)) s/\Kx [T] t9 s) (λi x e s hx ⟨⟨z5,z6,he⟩,M,K⟩=>by
  subst he
  rw [yZ] at hx
  obtain ⟨z,hz,rfl⟩:=Option.map_eq_some_iff.mp hx
  have zn:z∉(e9 kp++fS ((picks (bitAt b) 0 ps).take i)).map (·.1):=by
   rw [wL,GS,VP]
   exact VO nd hz
  obtain ⟨t,E,M',K'⟩:=VT (r:=r) (fv:=fv) (fm:=fm) (vs:=.tup (kp.map (·.2))) (z6:=z6) M zn (by simp;omega)
  rw [wM,VR hz] at M'
  exact ⟨_,_,t,rfl,E,⟨_,_,rfl⟩,M',K.trans K'⟩) (picks (bitAt b) 0 ps).length 0 (eK o r fv fm (.tup (kp.map (·.2))) y5 y6) t9 (by simp) ⟨⟨_,_,rfl⟩,M9,Kx.refl _ _⟩
 subst GW
 rw [jk,List.take_length] at GX
 rw [List.drop_zero] at F8 GV
 have KP:=Vv (f:=f) (r:=rest) (ps:=ps) b hb (by omega) t6
 rw [hfv] at KP
 rw [hk] at KP
 have LP:=uk (f:=f) (r:=rest) (ps:=ps) b hb (by omega) t8
 rw [hfv] at LP
 have i1:∀{s:aa},zm fm (.int 1) s=.ok (.int b) s:=by subst hfm;exact yE
 have i2:∀{s:aa},zm fm (.int 2) s=.ok (.tup (lt.map PV.str)) s:=by subst hfm;exact wx
 have i3:∀{s:aa},zm fm (.int 3) s=.ok gs s:=by subst hfm;exact oj
 have E:qy [.ref o,.ref r,fv,fm,.tup (kp.map (·.2))] t0=.ok .non GU:=k9 rfl (zA (wJ (zf rfl) (zf rfl) h0 (by decide +kernel) (by decide)) (zA (wJ (zC (zI (zl (zf rfl) rfl i2)) E2) (zf rfl) h2 (by decide +kernel) (by decide)) (zA (wJ (zl (zf rfl) rfl i3) (zf rfl) h3 (by decide +kernel) (by decide)) (zA (wJ (x:=.ref T) (s1:=t5) rfl (zf rfl) h5 (by decide +kernel) (by decide)) (zA (VN (zW (zC (zW (zf rfl) (zl (zf rfl) rfl i1)) KP) (zf rfl)) (by rw [GR,<-hk];exact F8)) (k8 (zC (zW (zf rfl) (zl (zf rfl) rfl i1)) LP) GV))))))
 refine ⟨t1.length,T,GU,?_,GX,by show st.length<t1.length;omega,lT,λm so e=>?_⟩
 ·show (qy [.ref o,.ref r,fv,fm,.tup (kp.map (·.2))] t0).bind _=_
  rw [E,zG]
  rfl
 ·have hm:=yb e
  have ne:m∉[T]:=by simp;omega
  exact VW _ _ ne (zR _ _ _ _ (K8 _ _ ne (zR _ _ _ _ (k6 _ _ e))))
noncomputable abbrev qT (z:Str):PV:=.tup [.str "of", .str z]
noncomputable abbrev qU (v:PV):PV:=.tup [.str "is", v]
noncomputable abbrev bh (z w:Str) (as:An):PV:=.tup [.str "let", .str z,.str w,.tup as]
inductive eI (E:Ev):PV->Option PV->PV->Prop
 | is (v:PV):eI E (qU v) (some v) (qU v)
 | kn (z:Str) (v:PV):E.lookup z=some (some v)->eI E (qT z) (some v) (qU v)
 | la (z:Str):E.lookup z=some none->eI E (qT z) none (qT z)
theorem uo:("of" : Str) ≠ "is" := by decide +kernel
def Ob (s:aa) (v:PV) (x:Ao) (b:PV):Prop:=∃q,v=.ref q/\((∃y,x=some y/\s[q]?=some (mM y)/\b=qU y)\/(∃z,x=none/\s[q]?=some (k_ z)/\b=qT z))
section
variable {lt:Ad}{o La T q n:Nat}{E:Ev}{s s1 s':aa}{a b v:PV}{x:Ao}{e:zd}
def Ob.old (h:Ob s v x b) (k:Old s s'):Ob s' v x b:=by
 obtain ⟨q,e,⟨y,h1,h2,h3⟩|⟨z,h1,h2,h3⟩⟩:=h
 ·exact ⟨q,e,.inl ⟨y,h1,k _ _ h2,h3⟩⟩
 ·exact ⟨q,e,.inr ⟨z,h1,k _ _ h2,h3⟩⟩
def GY (h:Tg T E s) (hs:eI E a x b):∃v s1,qz [a,.ref T] s=.ok v s1/\Ob s1 v x b/\Old s s1:=by
 cases hs with
 | is v=>exact ⟨_,_,zZ rfl (j2 (jp (zQ (zl (zl (zf rfl) rfl yG) rfl (fR _))) (zY (zC (zI (zl (zf rfl) rfl yE)) (AZ v s))))),⟨_,rfl,.inl ⟨v,rfl,yp _ _,rfl⟩⟩,zR _ _⟩
 | kn z v hl =>
  obtain ⟨vs,hT,ht⟩:=h
  obtain ⟨q,h1,h2⟩:=ht.get hl
  exact ⟨_,s,zZ rfl (zA (yu (zQ (zl (zl (zf rfl) rfl yG) rfl (cH uo _)))) (zY (zl (zf rfl) (zl (zf rfl) rfl yE) (mK hT h1)))),⟨q,rfl,.inl ⟨v,rfl,h2,rfl⟩⟩,Old.refl _⟩
 | la z hl =>
  obtain ⟨vs,hT,ht⟩:=h
  obtain ⟨q,h1,h2⟩:=ht.get hl
  exact ⟨_,s,zZ rfl (zA (yu (zQ (zl (zl (zf rfl) rfl yG) rfl (cH uo _)))) (zY (zl (zf rfl) (zl (zf rfl) rfl yE) (mK hT h1)))),⟨q,rfl,.inr ⟨z,rfl,h2,rfl⟩⟩,Old.refl _⟩
theorem GZ {fo:Ai} (h:Ob s v x b) (ho:fo e s=.ok v s):y3 "atom" kY fo zk e s=.ok b s:=by
 obtain ⟨q,rfl,⟨y,_,h1,rfl⟩|⟨z,_,h1,rfl⟩⟩:=h
 ·exact iZ ho h1 (by decide +kernel) (zx rfl) j3 (zZ rfl (zY (yB (zW rfl (yX (zf rfl) (wj h1 (by decide +kernel) rfl))) (by simp))))
 ·have ht:kY "Later" = some m_Later_atom:=by unfold kY;rw [zH (by decide +kernel),zx rfl]
  exact iZ ho h1 (by decide +kernel) ht j3 (zZ rfl (zY (yB (zW rfl (yX (zf rfl) (wj h1 (by decide +kernel) rfl))) (by simp))))
def VX {fo:Ai} {y:PV} (h:Ob s v (some y) b) (ho:fo e s=.ok v s):yg (aS "value" insOf excOf) fo e s=.ok y s:=by
 obtain ⟨q,rfl,⟨y',h0,h1,rfl⟩|⟨z,h0,h1,rfl⟩⟩:=h
 ·cases h0
  exact yX ho (wj h1 (by decide +kernel) rfl)
 ·cases h0
end
structure SL (E:Ev) (as:An) (xs:List (Ao)) (bs:An):Prop where
 l1:as.length=xs.length
 l2:as.length=bs.length
 at_:∀(i:Nat) a x b,as[i]?=some a->xs[i]?=some x->bs[i]?=some b->eI E a x b
def SL.two {E:Ev}{a a':PV}{x x':Ao}{b b':PV}(h:eI E a x b) (h':eI E a' x' b'):SL E [a,a'] [x,x'] [b,b']:=⟨rfl,rfl,λi a x b e1 e2 e3=>by
 match i with
 | 0=>cases e1;cases e2;cases e3;exact h
 | 1=>cases e1;cases e2;cases e3;exact h'
 | i+2=>cases e1⟩
structure qV (s:aa) (vs:An) (xs:List (Ao)) (bs:An):Prop where
 l1:vs.length=xs.length
 l2:vs.length=bs.length
 at_:∀(i:Nat) v x b,vs[i]?=some v->xs[i]?=some x->bs[i]?=some b->Ob s v x b
section
variable {lt:Ad}{o La T q n:Nat}{E:Ev}{s s1 s':aa}{as bs vs:An}{xs:List (Ao)}{e:zd}
def qV.old (h:qV s vs xs bs) (k:Old s s'):qV s' vs xs bs:=⟨h.l1,h.l2,λi v x b e1 e2 e3=>(h.at_ i v x b e1 e2 e3).old k⟩
theorem VY (M:Mg lt o La T E s) (h:SL E as xs bs) (hl:as.length<=1000):∃vs n s1,m_Making_things_at [.ref o,.tup as] s=.ok (.ref n) s1/\s1[n]?=some (.lst vs)/\qV s1 vs xs bs/\Old s s1:=by
 obtain ⟨r,gs,ob⟩:=M.ob
 obtain ⟨ys,s',C,hy,nF,ho⟩:=mI (fe:=zq qz (ze (zc 0) (ze (yg (aS "things" insOf excOf) (zc 1)) zk))) (env:=[Au o,some (.tup as)]) as (λi ys s'=>ys.length=i/\(∀(j:Nat) v x b,ys[j]?=some v->xs[j]?=some x->bs[j]?=some b->Ob s' v x b)/\Old s s') (λi a ys s' ha ⟨hy,nF,ho⟩=>by
  have hi:=w9 ha
  have hx:xs[i]?=some (xs[i]'(by rw [<-h.l1];exact hi)):=yo _
  have hb:bs[i]?=some (bs[i]'(by rw [<-h.l2];exact hi)):=yo _
  have M':=M.old ho
  obtain ⟨v,s2,E2,O2,o2⟩:=GY M'.th (h.at_ i a _ _ ha hx hb)
  refine ⟨v,s2,zC (zW (zf rfl) (yX (zf rfl) (oy M'))) E2,by simp [hy],λj v' x b e1 e2 e3=>?_,ho.trans o2⟩
  rcases Nat.lt_trichotomy j i with q|q|q
  ·rw [ib (by omega)] at e1
   exact (nF j v' x b e1 e2 e3).old o2
  ·subst q
   rw [ic (by omega),hy] at e1
   simp at e1
   subst e1
   rw [hx] at e2
   rw [hb] at e3
   cases e2;cases e3
   exact O2
  ·rw [lC (by simp;omega)] at e1
   cases e1) as.length 0 [] s (by omega) ⟨rfl,λj v x b e1 _ _=>by simp at e1,Old.refl _⟩
 rw [List.drop_zero] at C
 refine ⟨ys,s'.length,s'++[.lst ys],zZ rfl (zY ?_),yp _ _,⟨by rw [hy];exact h.l1,by rw [hy];exact h.l2,λi v x b e1 e2 e3=>(nF i v x b e1 e2 e3).old (zR _ _)⟩,ho.trans (zR _ _)⟩
 rw [iP,wv,zf rfl,zG]
 show eB _ _ (.im as) s=_
 rw [kS,zx (by simp [lim];omega)]
 exact C
theorem G3 {fo fa:Ai} (h1:fo e s=.ok (.ref o) s) (h2:fa e s=.ok (.tup as) s) (M:Mg lt o La T E s) (h:SL E as xs bs) (hl:as.length<=1000):∃vs n s1,y3 "things_at" qA fo (ze fa zk) e s=.ok (.ref n) s1/\s1[n]?=some (.lst vs)/\qV s1 vs xs bs/\Old s s1:=by
 obtain ⟨r,gs,ob⟩:=M.ob
 obtain ⟨vs,n,s1,E1,r1⟩:=VY M h hl
 exact ⟨vs,n,s1,iZ h1 ob (by decide +kernel) (zx rfl) (zI h2) E1,r1⟩
theorem G8 {fe src:Ai}{xs Y:An}(hs:src e s=.ok (.ref n) s1) (hn:s1[n]?=some (.lst xs)) (hl:xs.length<=1000) (hy:xs.length=Y.length) (h:∀(i:Nat) x y,xs[i]?=some x->Y[i]?=some y->fe (some x::e) s1=.ok y s1):y8 (yD src) fe e s=.ok (.ref s1.length) (s1++[.lst Y]):=by
 rw [iP,wv,hs,zG,sR,yz hn,zG]
 obtain ⟨ys,s2,C,h1,h2⟩:=Gd (fe:=fe) (env:=e) (n:=n) xs (λi ys st=>ys=Y.take i/\st=s1) (λi ys st h=>by rw [h.2];exact hn) (λi x ys st hx ⟨h1,h2⟩=>by
  have hi:=w9 hx
  have hq:Y[i]?=some (Y[i]'(by omega)):=yo _
  subst h2
  exact ⟨_,_,h i x _ hx hq,by rw [h1,iW hq],rfl⟩) xs.length 0 (lim+1) [] s1 (by omega) (by simp [lim];omega) ⟨rfl,rfl⟩
 subst h2
 rw [hy,List.take_length] at h1
 subst h1
 exact C
def qW {xs:An}:yW [.ref s.length] (s++[.lst xs])=.ok (.tup xs) (s++[.lst xs]):=by rw [wY,yz (yp _ _)]
noncomputable abbrev mN (w:Str) (k:Int):SO:=.ins "Op" ["word", "many"] [.str w,.int k]
def eJ (w:Str) (xs:An) (v:PV):Prop:=∃k,(∀s,wG [.str w] s=.ok (.ref s.length) (s++[mN w k]))/\∀s o,s[o]?=some (mN w k)->∃s1,m_Op_answer [.ref o,.tup xs] s=.ok v s1/\Old s s1
theorem VZ {z w:Str}{ys:An}{v:PV}(M:Mg lt o La T E s) (h:SL E as (ys.map some) bs) (hl:as.length<=1000) (A:eJ w ys v):∃s1,m_Making_answer_ahead [.ref o,bh z w as] s=.ok v s1/\Old s s1:=by
 obtain ⟨k,A1,A2⟩:=A
 have o1:Old s (s++[mN w k]):=zR _ _
 obtain ⟨vs,n,s2,T2,n2,O2,o2⟩:=G3 (e:=[Au o,some (bh z w as)]) (fo:=zc 0) (fa:=zh zm (zc 1) (Ar 3)) (zf rfl) (zl (zf rfl) rfl oj) (M.old o1) h hl
 have C:=G8 (e:=[Au o,some (bh z w as)]) (fe:=yg (aS "value" insOf excOf) (zc 0)) (Y:=ys) T2 n2 (by have:=O2.l2;have:=h.l2;omega) (by have:=O2.l1;simpa using this) (λi x y hx hy=>by
  have hi:=w9 hx
  have hb:bs[i]?=some (bs[i]'(by rw [<-O2.l2];exact hi)):=yo _
  exact VX (O2.at_ i x (some y) _ hx (by rw [yZ,hy];rfl) hb) (zf rfl))
 have o3:Old s2 (s2++[SO.lst ys]):=zR _ _
 obtain ⟨s4,E4,o4⟩:=A2 _ s.length (o3 _ _ (o2 _ _ (yp _ _)))
 exact ⟨s4,zZ rfl (zY (iZ (zC (zI (zl (zf rfl) rfl wx)) (A1 s)) (yp _ _) (by decide +kernel) (zx rfl) (zI (zC (zI C) qW)) E4)),o1.trans (o2.trans (o3.trans o4))⟩
theorem V0 {z w:Str}(M:Mg lt o La T E s) (h:SL E as xs bs) (hl:as.length<=1000) (hz:z∉E.map (·.1)) (hE:E.length<=1000):∃s1,m_Making_left_let [.ref o,bh z w as] s=.ok (bh z w bs) s1/\Mg lt o La T (E++[(z,none)]) s1/\Kx [T] s s1/\KI s s1:=by
 obtain ⟨vs,n,s2,T2,n2,O2,o2⟩:=G3 (e:=[Au o,some (bh z w as),none]) (fo:=zc 0) (fa:=zh zm (zc 1) (Ar 3)) (zf rfl) (zl (zf rfl) rfl oj) M h hl
 have C:=G8 (e:=[Au o,some (bh z w as),none]) (fe:=y3 "atom" kY (zc 0) zk) (Y:=bs) T2 n2 (by have:=O2.l2;have:=h.l2;omega) O2.l2 (λi x y hx hy=>by
  have hi:=w9 hx
  have hb:xs[i]?=some (xs[i]'(by rw [<-O2.l1];exact hi)):=yo _
  exact GZ (O2.at_ i x _ y hx hb hy) (zf rfl))
 have o3:Old s (s2++[SO.lst bs]):=o2.trans (zR _ _)
 have M3:=M.old o3
 generalize hs3:s2++[SO.lst bs]=s3 at o3 M3 C
 have tt:yW [.ref s2.length] s3=.ok (.tup bs) s3:=by rw [<-hs3];exact qW
 obtain ⟨us,hT,hd,g,i,k⟩:=M3.th.put hz none
 have o4:Old s3 (s3++[k_ z]):=zR _ _
 have P:=lh hd (fo:=yg (aS "things" insOf excOf) (zc 0)) (fi:=zh zm (zc 1) (Ar 1)) (fv:=zq (bI "Later" kX) (ze (zh zm (zc 1) (Ar 1)) zk)) (e:=[Au o,some (bh z w as),some (.tup bs)]) (s:=s3) (s1:=s3++[k_ z]) (zC (zI (zl (zf rfl) rfl yE)) (GO z s3)) (yX (zf rfl) (oy (M3.old o4))) (zl (zf rfl) rfl yE) (o4 _ _ hT) (by simpa using hE)
 exact ⟨_,zZ rfl (zA (zU (zC (zI C) tt)) (zA P (zY (yB (mJ rfl (zl (zf rfl) rfl yE) (zl (zf rfl) rfl wx) (zf rfl)) (by simp))))),M3.put rfl g i k,o3.kx.trans k,o3.ki.trans i⟩
end
section
variable {e:zd}{s s1 s2:aa}{fo fi fv:Ai}{fs:Ah}{x y:PV}{xs cM ys:An}{ks b_:Ad}{c:Str}{o r:Nat}
variable {w l:Bool}{R:List Nat}{k r o La T an rn xn mn yn L M N:Nat}{s:aa}{mr:Al}
def V1 {j:Nat}{cn z:Str}{dR:Aj}(hd:jT z x ks xs=(b_,cM)) (hv:fv e s=.ok x s1) (ho:fo e s1=.ok (.ref r) s1) (hi:fi e s1=.ok (.str z) s1) (hr:s1[r]?=some (.dic ks xs)) (hl:ks.length<=1000):n5 j cn fo fi fv dR e s=.ok (.nx e) (s1.set r (.dic b_ cM)):=by
 unfold n5
 rw [hv]
 simp only
 rw [ho,j0,zG,hi,j0,zG]
 show (ja s1 r _).bind _=_
 rw [El hr,zx (by simp [lim];omega),zG,hd]
def V2 {cn:Str}{m:Al}(hv:fv e s=.ok x s1) (hm:bI cn m [x] s1=.ok y s2):gO cn m fv e s=.ok y s2:=by
 unfold gO
 rw [hv,zG,hm,j0]
def V3 {name:Str}{tab:Str->Option (Al)}{m:Al}{X:Res PV}(ho:fo e s=.ok (.ref o) s1) (h:s1[o]?=some (.ins c ks xs)) (hn:name∉ks) (ht:tab c=some m) (hf:fs e s1=.ok ys s2) (hm:m (.ref o::ys) s2=X):gI name tab fo fs e s=X:=by
 unfold gI
 rw [ho,j0,zG]
 show yV s1 o _=_
 unfold yV
 rw [h]
 simp only
 rw [zH hn,ht]
 simp only
 rw [hf,j0,zG,hm]
end
section
variable {st:aa}{f b p:Nat}{B:PV}{ks:Ad}{xs:An}
variable {s s1:aa}{o T La r n q:Nat}{w:Bool}{ks:Ad}{vs:An}{e:zd}
def A5 {t:Ak}{b:Aj}{e:zd}{st s1:aa}(n:Nat) (h:t e st=.ok false s1):cg t b (n+1) e st=.ok (.nx e) s1:=by rw [DB,h,zG,zH (by simp)]
def A6 {t:Ak}{b:Aj}{e e2:zd}{st s1 s2:aa}{n:Nat}{X:Res Fl}(h:t e st=.ok true s1) (hb:b e s1=.ok (.nx e2) s2) (hX:cg t b n e2 s2=X):cg t b (n+1) e st=X:=by
 rw [DB,h,zG,zx rfl,hb,zG];exact hX
end
section
variable {w l:Bool}{R:List Nat}{m L f g r md M N i c:Nat}{fs:An}{s:aa}{z9:Ao}
def G9 (h:s[M]?=some (.lst fs)) {v:PV}(hi:fs[i]?=some v):aP zm (.ref M) (.int (i:Int)) s=.ok v s:=by
 show zm (.ref M) (.int (i:Int)) s=_
 show yl s M _=_
 rw [yz h,bt hi]
 rfl
end
noncomputable abbrev bS:Aj:=(zT (mB (zh ya (zh zm (zc 4) (Ar 0)) (As "call")))
  (zu yw
  yw)
  (zT (mB (zh (yt false) (zh zm (zc 4) (Ar 1)) (yg (aS "later" insOf excOf) (zc 0))))
  (jb (jh js (zc 3) (y3 "left_let" tP (zc 0) (ze (zc 4) zk))))
  (n5 5 "Fault" (yg (aS "things" insOf excOf) (zc 0)) (zh zm (zc 4) (Ar 1)) (gO "Known" iU (gI "answer_ahead" tU (zc 0) (ze (zc 4) zk)))
  yw)))
inductive fj (lt:Ad):Ev->List PV->Ev->List PV->Prop
 | nil (E:Ev):fj lt E [] E []
 | ahead {E E':Ev} {z w:Str} {as ys bs ss L:An} {v:PV}:z∉lt->z∉E.map (·.1)->SL E as (ys.map some) bs->as.length<=1000->eJ w ys v->fj lt (E++[(z,some v)]) ss E' L->fj lt E (bh z w as::ss) E' L
 | left {E E':Ev} {z w:Str} {as bs ss L:An} {xs:List (Ao)}:z∈lt->z∉E.map (·.1)->SL E as xs bs->as.length<=1000->fj lt (E++[(z,none)]) ss E' L->fj lt E (bh z w as::ss) E' (bh z w bs::L)
noncomputable abbrev eS (o:Nat) (bv:PV) (p:Int) (lf:Nat) (z4 z5 z6:Ao):zd:=[Au o,some bv,some (.int p),Au lf,z4,z5,z6]
section
variable {lt:Ad}{o La T lf:Nat}{E E':Ev}{s:aa}{bv:PV}{p:Int}{z4 z5 z6:Ao}{K L ss as bs ys:An}{z w:Str}{v:PV}{xs:List (Ao)}
def G_ (M:Mg lt o La T E s) {b:Bool} (hb:decide (z∈lt)=b):(mB (zh (yt false) (zh zm (zc 4) (Ar 1)) (yg (aS "later" insOf excOf) (zc 0)))) (eS o bv p lf (some (bh z w as)) z5 z6) s=.ok b s:=by
 obtain ⟨r,gs,ob⟩:=M.ob
 exact zQ (zl (zl (zf rfl) rfl yE) (yX (zf rfl) (wj ob (by decide +kernel) rfl)) (uc M.la (by rw [AR (by simp)];exact hb)))
theorem V4 (M:Mg lt o La T E s) (hz:z∉lt) (hk:z∉E.map (·.1)) (h:SL E as (ys.map some) bs) (hl:as.length<=1000) (A:eJ w ys v) (hE:E.length<=1000):∃s1,bS (eS o bv p lf (some (bh z w as)) z5 z6) s=.ok (.nx (eS o bv p lf (some (bh z w as)) z5 z6)) s1/\Mg lt o La T (E++[(z,some v)]) s1/\Kx [T] s s1/\KI s s1:=by
 obtain ⟨r,gs,ob⟩:=M.ob
 obtain ⟨s1,A1,o1⟩:=VZ (z:=z) M h hl A
 have M1:=M.old o1
 obtain ⟨us,hT,hd,g,i,k⟩:=M1.th.put hk (some v)
 have o2:Old s1 (s1++[mM v]):=zR _ _
 exact ⟨_,ql (zQ (zl (zl (zf rfl) rfl yG) rfl (cH n1 _))) (ql (G_ M (jr hz)) (V1 hd (V2 (V3 (zf rfl) ob (by decide +kernel) (zx rfl) (zI (zf rfl)) A1) (AZ v s1)) (yX (zf rfl) (oy (M1.old o2))) (zl (zf rfl) rfl yE) (o2 _ _ hT) (by simpa using hE))),M1.put rfl g i k,o1.kx.trans k,o1.ki.trans i⟩
theorem V6 (M:Mg lt o La T E s) (hf:s[lf]?=some (.lst K)) (V7:lf≠La) (Ha:lf≠T) (hz:z∈lt) (hk:z∉E.map (·.1)) (h:SL E as xs bs) (hl:as.length<=1000) (hE:E.length<=1000) (hK:K.length<=1000):∃s1,bS (eS o bv p lf (some (bh z w as)) z5 z6) s=.ok (.nx (eS o bv p lf (some (bh z w as)) z5 z6)) s1/\Mg lt o La T (E++[(z,none)]) s1/\s1[lf]?=some (.lst (K++[bh z w bs]))/\Kx [T,lf] s s1/\KI s s1:=by
 obtain ⟨r,gs,ob⟩:=M.ob
 obtain ⟨s1,A1,M1,k1,i1⟩:=V0 (w:=w) M h hl hk hE
 have f1:=k1 _ _ (by simpa using Ha) hf
 have i2:KI s1 (s1.set lf (.lst (K++[bh z w bs]))):=GP f1 (by intro _ _ _ q;cases q)
 have k2:Kx [lf] s1 (s1.set lf (.lst (K++[bh z w bs]))):=jQ (by simp)
 refine ⟨_,ql (zQ (zl (zl (zf rfl) rfl yG) rfl (cH n1 _))) (jp (G_ M (jJ hz)) (wF (wZ (zf rfl) hf (iZ (zf rfl) ob (by decide +kernel) (zx rfl) (zI (zf rfl)) A1) (iX f1 (by omega))))),M1.kx k2 i2 (by simpa using yC V7) (by simpa using yC Ha),yM (yb f1),λm so q e=>?_,i1.trans i2⟩
 simp at q
 exact k2 _ _ (by simpa using q.2) (k1 _ _ (by simpa using q.1) e)
theorem V8 (h:fj lt E ss E' L):∀{s:aa}{K:An}{z4:Ao},Mg lt o La T E s->s[lf]?=some (.lst K)->lf≠La->lf≠T->E.length+ss.length<=1000->K.length+ss.length<=1000->∃V9 s1,forL (gN 4) bS ss (eS o bv p lf z4 z5 z6) s=.ok (.nx (eS o bv p lf V9 z5 z6)) s1/\Mg lt o La T E' s1/\s1[lf]?=some (.lst (K++L))/\Kx [T,lf] s s1/\KI s s1:=by
 induction h with
 | nil E=>exact λ{s K z4} M f a b c d=>⟨z4,s,rfl,M,by rw [List.append_nil];exact f,Kx.refl _ _,λ_ _ _ _ e=>e⟩
 | ahead hz hk hs hl A r ih =>
  intro s K z4 M f a b c d
  obtain ⟨s1,B,M1,k1,i1⟩:=V4 (lf:=lf) (bv:=bv) (p:=p) (z5:=z5) (z6:=z6) M hz hk hs hl A (by simp at c;omega)
  have f1:=k1 _ _ (by simpa using b) f
  obtain ⟨z',s2,F,M2,f2,k2,i2⟩:=ih M1 f1 a b (by simp at c ⊢;omega) (by simp at d;omega)
  refine ⟨z',s2,iY rfl B F,M2,f2,λm so q e=>?_,i1.trans i2⟩
  have q':=q
  simp at q'
  exact k2 _ _ q (k1 _ _ (by simpa using q'.1) e)
 | left hz hk hs hl r ih =>
  intro s K z4 M f a b c d
  obtain ⟨s1,B,M1,f1,k1,i1⟩:=V6 (lf:=lf) (bv:=bv) (p:=p) (z5:=z5) (z6:=z6) M f a b hz hk hs hl (by simp at c;omega) (by simp at d;omega)
  obtain ⟨z',s2,F,M2,f2,k2,i2⟩:=ih M1 f1 a b (by simp at c ⊢;omega) (by simp at d ⊢;omega)
  exact ⟨z',s2,iY rfl B F,M2,by rw [wM] at f2;exact f2,k1.trans k2,i1.trans i2⟩
noncomputable abbrev bA (a:PV):PV:=.tup [.str "give", a]
theorem V_ {a b:PV}{x:Ao}(M:Mg lt o La T E s) (h:eI E a x b):∃s1,m_Making_made_end [.ref o,bA a,.int p] s=.ok (.tup [.tup [],bA b]) s1/\Old s s1:=by
 obtain ⟨v,s1,E1,O1,o1⟩:=GY M.th h
 exact ⟨s1,zZ rfl (zA (yu (zQ (zl (zl (zf rfl) rfl yG) rfl (cH (by decide +kernel) _)))) (zA (yu (zQ (zl (zl (zf rfl) rfl yG) rfl (cH (by decide +kernel) _)))) (zA (zU (zC (zW (zl (zf rfl) rfl yE) (yX (zf rfl) (oy M))) E1)) (j2 (jp (zQ (zl (zl (zf rfl) rfl yG) rfl (fR _))) (zY (yB (zW (yB j3 (by simp)) (yB (zW rfl (GZ O1 (zf rfl))) (by simp))) (by simp)))))))),o1⟩
theorem Wa {a b:PV}{x:Ao}(M:Mg lt o La T E s) (h:fj lt E ss E' L) (he:eI E' a x b) (hl:E.length+ss.length<=1000) (lL:L.length<=1000):∃s1,m_Making_made_block [.ref o,.tup [.tup ss,bA a],.int p] s=.ok (.tup [.tup L,bA b]) s1/\Kx [T] s s1/\KI s s1:=by
 have o0:Old s (s++[SO.lst []]):=zR _ _
 have l1:=yb M.la
 obtain ⟨us,hT,_⟩:=M.th
 have l2:=yb hT
 obtain ⟨z',s2,F,M2,f2,k2,i2⟩:=V8 (bv:=.tup [.tup ss,bA a]) (p:=p) (z5:=none) (z6:=none) (z4:=none) h (M.old o0) (yp _ _) (by omega) (by omega) hl (by simp;omega)
 obtain ⟨r,gs,ob⟩:=M2.ob
 obtain ⟨s3,E3,o3⟩:=V_ (p:=p) M2 he
 refine ⟨s3,zZ rfl (zA (zU (we j3 (by simp))) (zA (k8 (zl (zf rfl) rfl yG) F) (zA (zU (iZ (zf rfl) ob (by decide +kernel) (zx rfl) (zW (zl (zf rfl) rfl yE) (zf rfl)) E3)) (zY (yB (zW (zl (zC (zI (zf rfl)) (by rw [wY,yz (o3 _ _ f2)])) (zl (zf rfl) rfl yG) ((AI (xs:=[]++L) (ys:=[]) (by simp;omega)).trans (by simp))) (zl (zf rfl) rfl yE)) (by simp)))))),λm so q e=>?_,o0.ki.trans (i2.trans o3.ki)⟩
 have:=yb e
 exact o3 _ _ (k2 _ _ (by simp at q ⊢;omega) (o0 _ _ e))
end
noncomputable abbrev cD (nz:Str) (ps:Ad) (ss:An) (a:PV):PV:=.tup [.str nz,.tup (ps.map PV.str),.tup [.tup ss,bA a]]
noncomputable abbrev dg (nz:Str) (b:Int) (lt:Ad):PV:=.tup [.str nz,.int b,.tup (lt.map PV.str),.tup []]
structure One (nz:Str) (ps:Ad) (b:Int) (kp:List (Str×PV)) (ss:An) (a:PV) (lt:Ad) (L:An) (a':PV) (z:Str):Prop where
 b0:0<=b
 kn:picks (λj=>!bitAt b j) 0 ps=kp.map (·.1)
 ps6:ps.length<=6
 ltn:lt.Nodup
 lt9:lt.length<=900
 nd:(kp.map (·.1)++picks (bitAt b) 0 ps).Nodup
 go:∃E' x,fj lt (e9 kp++fS (picks (bitAt b) 0 ps)) ss E' L/\eI E' a x a'
 s9:ss.length<=900
 L9:L.length<=900
 sh:∀s,∃s1,kW 4 [.tup (kp.map (·.2))] s=.ok (.str z) s1/\Old s s1
section
variable {nz z:Str}{ps lt:Ad}{b:Int}{kp:List (Str×PV)}{ss L:An}{a a':PV}{Lm r M N:Nat}{s:aa}
noncomputable abbrev mO (ps:Ad) (b:Int) (L:An) (a':PV):PV:=.tup [.str "q0", .tup ((picks (bitAt b) 0 ps).map PV.str),.tup [.tup L,bA a']]
theorem Wb (O:One nz ps b kp ss a lt L a' z) (G:R1 nz b (kp.map (·.2)) z Lm r M N s):∃s1,tV [.ref r,cf nz b (kp.map (·.2)),cD nz ps ss a,dg nz b lt] s=.ok (mO ps b L a') s1/\Old s s1:=by
 have h6:=O.ps6
 obtain ⟨E',x,go,se⟩:=O.go
 obtain ⟨La,T,s1,E1,M1,c1,c2,o1⟩:=VU (f:=.str nz) (nz:=nz) (gs:=.tup []) (rest:=[.tup [.tup ss,bA a]]) O.b0 O.kn (by omega) O.ltn (by have:=O.lt9;omega) O.nd r s
 have G1:=G.old o1
 obtain ⟨s2,E2,o2⟩:=VH O.sh G1
 have LP:=uk (f:=.str nz) (ps:=ps) (r:=[.tup [.tup ss,bA a]]) b O.b0 (by omega) s2
 have o3:Old s2 (s2++[SO.lst ((picks (bitAt b) 0 ps).map PV.str)]):=zR _ _
 have M3:=(M1.old o2).old o3
 obtain ⟨r',YN,ob⟩:=M3.ob
 have len:(e9 kp++fS (picks (bitAt b) 0 ps)).length<=12:=by
  have q1:(kp.map (·.1)).length<=ps.length:=by rw [<-O.kn];exact wg.length_le
  have q2:(picks (bitAt b) 0 ps).length<=ps.length:=wg.length_le
  simp at q1 ⊢
  omega
 obtain ⟨s4,E4,k4,i4⟩:=Wa (p:=0) M3 go se (by have:=O.s9;omega) (by have:=O.L9;omega)
 refine ⟨s4,zZ rfl (zA (zU (zC (mJ (zf rfl) (zf rfl) (zf rfl) (zl (zf rfl) rfl wx)) E1)) (zY (yB (wH (iZ (zf rfl) G1.at_ (by decide +kernel) (zx rfl) (zI (zf rfl)) E2) (zC (zW (zf rfl) (zl (zf rfl) rfl yE)) LP) (iZ (zf rfl) ob (by decide +kernel) (zx rfl) (zW (zl (zf rfl) rfl wx) rfl) E4)) (by simp)))),λm so e=>?_⟩
 have:=yb e
 exact k4 _ _ (by simp;omega) (o3 _ _ (o2 _ _ (o1 _ _ e)))
def A7 {fr:An}(s:aa):qt [.tup [.tup (.str nz::fr)]] s=.ok (.ref s.length) (s++[.dic [nz] [.tup (.str nz::fr)]]):=by
 have D:=lh (oo (z:=nz) (x:=.tup (.str nz::fr)) (ks:=[]) (xs:=[]) (by simp)) (fo:=zc 1) (fi:=zh zm (zc 2) (Ar 0)) (fv:=zc 2) (e:=[some (.tup [.tup (.str nz::fr)]),Au s.length,some (.tup (.str nz::fr))]) (s:=s++[.dic [] []]) (zf rfl) (zf rfl) (zl (zf rfl) rfl yG) (yp _ _) (by simp)
 rw [um] at D
 exact zZ rfl (zA (zU rfl) (zA (k8 (zf rfl) (iY rfl D rfl)) (zY (zf rfl))))
def Wc {fr:An}(s:aa):x9 [.tup [.tup (.str nz :: .int b::fr)]] s=.ok (.ref s.length) (s++[.dit [[.inr nz,.inl b]] [.tup (.str nz :: .int b::fr)]]):=by
 have D:=GK (fo:=zc 1) (fi:=yd (ze (zh (aP zm) (zc 2) (Ar 0)) (ze (zh (aP zm) (zc 2) (Ar 1)) zk))) (fv:=zc 2) (e:=[some (.tup [.tup (.str nz :: .int b::fr)]),Au s.length,some (.tup (.str nz :: .int b::fr))]) (s:=s++[.dic [] []]) (k:=[.inr nz,.inl b]) (zs:=[.str nz,.int b]) (kk:=[]) (xs:=[]) (n:=s.length) (zf rfl) (zf rfl) (yB (zW (zl (zf rfl) rfl wI) (zl (zf rfl) rfl om)) (by simp)) rfl (by rw [yp];rfl) rfl (by simp)
 rw [um] at D
 exact zZ rfl (zA (zU rfl) (zA (k8 (zf rfl) (iY rfl D rfl)) (zY (zf rfl))))
noncomputable abbrev bW:Aj:=(zu (zJ 9 (zh (aP zm) (yg (aS "met" insOf excOf) (zc 7)) (zq yx (ze (zc 8) zk))))
  (jb (jh js (zc 8) (zq tV (ze (zc 7) (ze (zc 9) (ze (zh (aP zm) (zc 5) (zh (aP zm) (zc 9) (Ar 0))) (ze (zh (aP zm) (zc 6) (yd (ze (zh (aP zm) (zc 9) (Ar 0)) (ze (zh (aP zm) (zc 9) (Ar 1)) zk)))) zk))))))))
noncomputable abbrev tW:Ak:=(mB (zh j8 (zq yx (ze (zc 8) zk)) (zq yx (ze (yg (aS "met" insOf excOf) (zc 7)) zk))))
theorem Wd (O:One nz ps b kp ss a lt L a' z) (hB:∀s,∃s1,qw [.tup [cD nz ps ss a],.tup [dg nz b lt]] s=.ok .non s1/\Old s s1) (hL:0<Lm) (s:aa) :
  ∃s1,fN [.tup [cD nz ps ss a],.tup [dg nz b lt],.tup (kp.map (·.2)),nV Lm] s=.ok (.tup [.tup [mO ps b L a'],.tup [cf nz b (kp.map (·.2))]]) s1/\Old s s1:=by
 obtain ⟨s1,E1,o1⟩:=hB s
 let f:=s1.length
 let s2:=s1++[SO.dic [nz] [cD nz ps ss a]]
 let g:=s2.length
 let s3:=s2++[SO.dit [[.inr nz,.inl b]] [dg nz b lt]]
 have lf:f<s3.length:=by simp [f,s3,s2]
 have lg:g<s3.length:=by simp [g,s3]
 have We:s3[f]?=some (.dic [nz] [cD nz ps ss a]):=zR _ _ _ _ (yp _ _)
 have Wg:s3[g]?=some (.dit [[.inr nz,.inl b]] [dg nz b lt]):=yp _ _
 obtain ⟨s4,E4,G4,o4⟩:=VM Lm s3
 obtain ⟨s5,E5,G5,k5⟩:=VJ (f:=nz) (b:=b) O.sh hL G4
 have o6:Old s5 (s5++[SO.lst []]):=zR _ _
 have G6:=G5.old o6
 have Wh:=o6 _ _ (k5 f _ (by omega) (by omega) (o4 _ _ We))
 have Hb:=o6 _ _ (k5 g _ (by omega) (by omega) (o4 _ _ Wg))
 have uq:(s5++[SO.lst []])[s5.length]?=some (.lst []):=yp _ _
 obtain ⟨s7,E7,o7⟩:=Wb O G6
 have Hc:=o7 _ _ uq
 have G7:=G6.old o7
 have l5:=yb G5.met
 have YO:=yb G5.nms
 have YQ:=yb G5.at_
 let s8:=s7.set s5.length (.lst ([]++[mO ps b L a']))
 have Hd:s8[s5.length]?=some (.lst [mO ps b L a']):=yM (yb Hc)
 have Wi:s8[s3.length]?=some (mL Lm (s3.length+1) (s3.length+2)):=by show (s7.set _ _)[s3.length]?=_;rw [yh (by omega)];exact G7.at_
 have He:s8[s3.length+1]?=some (.lst [cf nz b (kp.map (·.2))]):=by show (s7.set _ _)[s3.length+1]?=_;rw [yh (by omega)];exact G7.met
 have F6:aS "met" insOf excOf (.ref s3.length) (s5++[SO.lst []])=.ok (.ref (s3.length+1)) (s5++[SO.lst []]):=wj G6.at_ (by decide +kernel) rfl
 have F8:aS "met" insOf excOf (.ref s3.length) s8=.ok (.ref (s3.length+1)) s8:=wj Wi (by decide +kernel) rfl
 have I1:aP zm (.ref f) (.str nz) (s5++[SO.lst []])=.ok (cD nz ps ss a) (s5++[SO.lst []]):=mK Wh (by simp)
 have I2:=AX (old:=zm) (zs:=[.str nz,.int b]) (k:=[.inr nz,.inl b]) (x:=dg nz b lt) rfl (show bR (s5++[SO.lst []])[g]?=_ by rw [Hb];rfl) (by unfold g_;rw [zx rfl])
 rw [qR Hb] at I2
 have B:bW [some (.tup [cD nz ps ss a]),some (.tup [dg nz b lt]),some (.tup (kp.map (·.2))),some (nV Lm),some .non,Au f,Au g,Au s3.length,Au s5.length,none] (s5++[SO.lst []])=.ok (.nx [some (.tup [cD nz ps ss a]),some (.tup [dg nz b lt]),some (.tup (kp.map (·.2))),some (nV Lm),some .non,Au f,Au g,Au s3.length,Au s5.length,some (cf nz b (kp.map (·.2)))]) s8 :=
  zA (zU (zl (yX (zf rfl) F6) (zC (zI (zf rfl)) (bp uq)) (G9 (i:=0) G6.met rfl))) (wF (wZ (zf rfl) uq (zC (mJ (zf rfl) (zf rfl) (zl (zf rfl) (zl (zf rfl) rfl wI) I1) (zl (zf rfl) (yB (zW (zl (zf rfl) rfl wI) (zl (zf rfl) rfl om)) (by simp)) I2)) E7) (iX Hc (by simp))))
 have W:cg tW bW 1000000 [some (.tup [cD nz ps ss a]),some (.tup [dg nz b lt]),some (.tup (kp.map (·.2))),some (nV Lm),some .non,Au f,Au g,Au s3.length,Au s5.length,none] (s5++[SO.lst []])=_ :=
  A6 (n:=999999) (zQ (zl (zC (zI (zf rfl)) (bp uq)) (zC (zI (yX (zf rfl) F6)) (bp G6.met)) (kZ true (by simp) _))) B (A5 999998 (zQ (zl (zC (zI (zf rfl)) (bp Hd)) (zC (zI (yX (zf rfl) F8)) (bp He)) (kZ false (by simp) _))))
 refine ⟨s8,zZ rfl (zA (zU (zC (zW (zf rfl) (zf rfl)) E1)) (zA (yu (zQ (zl (zf rfl) rfl rfl))) (zA (zU (zC (zI (zf rfl)) (A7 s1))) (zA (zU (zC (zI (zf rfl)) (Wc s2))) (zA (zU (zC (zI (zf rfl)) E4)) (zA (wF (iZ (zf rfl) G4.at_ (by decide +kernel) (zx rfl) (zI (yB (wH (zl (zl (zf rfl) rfl wI) rfl wI) (zl (zl (zf rfl) rfl wI) rfl om) (zf rfl)) (by simp))) E5)) (zA (zU (we j3 (by simp))) (zA W (zY (yB (zW (zC (zI (zf rfl)) (by rw [wY,yz Hd])) (zC (zI (yX (zf rfl) F8)) (by rw [wY,yz He]))) (by simp))))))))))),λm so e=>?_⟩
 have hm:=yb e
 have e3:s3[m]?=some so:=zR _ _ _ _ (zR _ _ _ _ (o1 _ _ e))
 have l3:=yb e3
 show (s7.set _ _)[m]?=_
 rw [yh (by omega)]
 exact o7 _ _ (o6 _ _ (k5 _ _ (by omega) (by omega) (o4 _ _ e3)))
end
section
variable {s s1:aa}{n:Nat}{e:zd}
def Hf {fe src:Ai}{xs:An}{f:PV->PV}(hs:src e s=.ok (.tup xs) s1) (hl:xs.length<=1000) (h:∀x∈xs,fe (some x::e) s1=.ok (f x) s1):y8 (yD src) fe e s=.ok (.ref s1.length) (s1++[.lst (xs.map f)]):=by
 rw [iP,wv,hs,zG]
 show eB _ _ (.im xs) s1=_
 rw [kS,zx (by simp [lim];omega)]
 have:=xE (f:=f) xs h []
 rw [List.nil_append] at this
 exact this
theorem Wj {fe src:Ai}{ft:Ak}{xs:An}{p:PV->Bool}{f:PV->PV}(hs:src e s=.ok (.ref n) s1) (hn:s1[n]?=some (.lst xs)) (hl:xs.length<=1000) (h:∀x∈xs,ft (some x::e) s1=.ok (p x) s1) (h':∀x∈xs,p x=true->fe (some x::e) s1=.ok (f x) s1):qk (yD src) ft fe e s=.ok (.ref s1.length) (s1++[.lst (xs.flatMap λx=>if p x=true then [f x] else [])]):=by
 rw [PR,wv,hs,zG,sR,yz hn,zG]
 have:=Gi (f:=f) (env:=e) xs hn h h' xs.length 0 (lim+1) [] (by omega) (by simp [lim];omega)
 rw [List.nil_append,List.drop_zero] at this
 exact this
end
theorem Wk:("give" : Str) ≠ "if" := by decide +kernel
noncomputable abbrev lp (ss:An) (a:PV):PV:=.tup [.tup ss,bA a]
theorem A8 {ss:An}{a:PV}(hl:ss.length<=1000) (s:aa):n_ [lp ss a] s=.ok (.tup (ss++[bA a])) s:=by
 exact zZ rfl (zA (zU (zl (zf rfl) rfl yE)) (zA (zU (zl (zl (zf rfl) rfl yG) (yB (zI (zf rfl)) (by simp)) (AI (xs:=ss) (ys:=[bA a]) (by simp;omega)))) (zA (yu (q0 rfl (cH Wk _))) (zY (zf rfl)))))
section
variable {z w:Str}{as:An}{a:PV}{s:aa}
def ur:iT [bh z w as] s=.ok .non s:=zZ rfl (zA (yu (q0 rfl (cH n1 _))) (zA (yu (q0 rfl (cH n2 _))) (zY rfl)))
def A9:iT [bA a] s=.ok .non s:=zZ rfl (zA (yu (q0 rfl (cH n3 _))) (zA (yu (q0 rfl (cH n4 _))) (zY rfl)))
theorem Hg:mE [bh z w as] s=.ok (.bl true) s:=zZ rfl (zY (zl (zl (zf rfl) rfl yG) (yB (zW rfl rfl) (by simp)) (Gh "let" true (by decide +kernel) _)))
theorem Wl:mE [bA a] s=.ok (.bl false) s:=zZ rfl (zY (zl (zl (zf rfl) rfl yG) (yB (zW rfl rfl) (by simp)) (Gh "give" false (by decide +kernel) _)))
def Hh:mF [bh z w as] s=.ok (.tup as) s:=zZ rfl (j2 (jp (zQ (zC (zI (zf rfl)) Hg)) (zY (zl (zf rfl) rfl oj))))
end
def mP (v:PV):Prop:=∃z w as,v=bh z w as
theorem Wm {ss:An}{a:PV}(h:∀v∈ss,mP v) (hl:ss.length<=900) (s:aa):∃s1,AE [lp ss a] s=.ok (.tup []) s1/\Old s s1:=by
 have C:=Hf (e:=[some (lp ss a),none]) (fe:=zq iT (ze (zc 0) zk)) (f:=λ_=>.non) (s:=s) (s1:=s) (src:=zq (n_) (ze (zc 0) zk)) (zC (zI (zf rfl)) (A8 (a:=a) (by omega) s)) (by simp;omega) (λx hx=>by
  rcases ju.mp hx with q|q
  ·obtain ⟨z,w,as,rfl⟩:=h x q
   exact zC (zI (zf rfl)) ur
  ·rw [jy.mp q]
   exact zC (zI (zf rfl)) A9)
 have D:=Wj (e:=[some (lp ss a),Au s.length]) (src:=zc 1) (ft:=mB (zh j1 (zc 0) (mC .non))) (fe:=zc 0) (p:=λ_=>false) (f:=id) (n:=s.length) (zf rfl) (yp s (.lst ((ss++[bA a]).map λ_=>PV.non))) (by simp;omega) (λx hx=>by
  obtain ⟨_,_,rfl⟩:=jE.mp hx
  exact zQ (zl (zf rfl) rfl rfl)) (λx hx q=>by cases q)
 have e0:(((ss++[bA a]).map λ_=>PV.non).flatMap λx=>if false=true then [id x] else [])=([]:An):=by simp
 rw [e0] at D
 exact ⟨_,zZ rfl (zA (zU C) (zY (zC (zI D) qW))),(zR _ _).trans (zR _ _)⟩
inductive gn:List Str->List PV->List Str->Prop
 | nil (L:Ad):gn L [] []
 | yes {L r:Ad} {z w:Str} {as ss:An}:(∀a∈as,gQ a)->as.length<=1000->as.any (aW L)=true->z∉L->gn (L++[z]) ss r->gn L (bh z w as::ss) (z::r)
 | no {L r:Ad} {z w:Str} {as ss:An}:(∀a∈as,gQ a)->as.length<=1000->as.any (aW L)=false->gn L ss r->gn L (bh z w as::ss) r
def gn.lets {L r:Ad}{ss:An}(h:gn L ss r):∀v∈ss,mP v:=by
 induction h with
 | nil=>exact λ_ h=>nomatch h
 | yes _ _ _ _ _ ih =>
  intro v hv
  rcases yF.mp hv with q|q
  ·exact ⟨_,_,_,q⟩
  ·exact ih v q
 | no _ _ _ _ ih =>
  intro v hv
  rcases yF.mp hv with q|q
  ·exact ⟨_,_,_,q⟩
  ·exact ih v q
def IsT.kx {ks:Ag}{s s':aa}{q:Nat}{ms:List Nat}(h:IsT ks s q) (k:Kx ms s s') (hq:q∉ms):IsT ks s' q:=by
 unfold IsT at h ⊢
 cases e:s[q]? with
 | none=>rw [e] at h;cases h
 | some so=>rw [k _ _ hq e];rw [e] at h;exact h
def Wn {nz z w:Str}{as:An}{o q b d:Nat}{s:aa}(ho:s[o]?=some (hG q b)) (hq:IsT [] s q) (ha:∀a∈as,gQ a) (hl:as.length<=1000) {L:Ad}(hd:k7 L s d):∃s1,m_Holding_makes_later [.ref o,.str nz,bh z w as,.ref d] s=.ok (.bl (as.any (aW L))) s1/\IsT [] s1 q/\Kx [q] s s1:=by
 have N:=Gr ha hl hd
 have o1:Old s (s++[SO.lst ((as.map (aW L)).map PV.bl)]):=zR _ _
 have B:decide (bq (as.map (aW L))≠0)=as.any (aW L):=by rw [Gq,List.any_map];rfl
 have T:(wA (mB (zh ya (zh (aP zm) (zc 2) (Ar 0)) (As "call"))) (mB (zh jN (zq mD (ze (zq mF (ze (zc 2) zk)) (ze (zc 3) zk))) (Ar 0)))) [Au o,some (.str nz),some (bh z w as),Au d] s=.ok (as.any (aW L)) (s++[SO.lst ((as.map (aW L)).map PV.bl)]) :=
  qm (zQ (zl (zl (zf rfl) rfl wI) rfl (cH n1 _))) (zQ (zl (zC (zW (zC (zI (zf rfl)) Hh) (zf rfl)) N) rfl (by rw [GD,B])))
 have q1:=hq.old o1
 cases hany:as.any (aW L) with
 | true =>
  rw [hany] at T
  exact ⟨_,zZ rfl (j2 (jp T (zY rfl))),q1,o1.kx⟩
 | false =>
  rw [hany] at T
  have R:=Gs (old:=yt false) (neg:=false) (k:=pk nz z) q1
  exact ⟨_,zZ rfl (zA (yu T) (zY (zl (yB (zW (zf rfl) (zl (zf rfl) rfl om)) (by simp)) (yX (zf rfl) (GB (o1 _ _ ho))) R))),AV q1.lt,o1.kx.trans (jQ (by simp))⟩
noncomputable abbrev cF:Aj:=(zT (jF (mB (zq mE (ze (zc 6) zk))) (mB (y3 "makes_later" qM (zc 0) (ze (zh zm (zc 1) (Ar 0)) (ze (zc 6) (ze (zc 3) zk))))))
  (zu (jb (jh js (zc 4) (zh zm (zc 6) (Ar 1))))
  (jD (zc 3) (zh zm (zc 6) (Ar 1)) (mC (.bl true))))
  zX)
noncomputable abbrev bF:Aj:=(zu (zJ 7 (zq iT (ze (zc 6) zk)))
  (zu (zT (mB (zh j1 (zc 7) (mC .non)))
  yw
  zX)
  cF))
structure BF (o q b d a g:Nat) (L dc:Ad) (s:aa):Prop where
 H:s[o]?=some (hG q b)
 Q:IsT [] s q
 D:s[d]?=some (.dic L (cx L))
 A:s[a]?=some (.lst (dc.map PV.str))
 G:s[g]?=some (.lst [])
 ne:o≠q/\o≠d/\o≠a/\q≠d/\q≠a/\q≠g/\d≠a/\d≠g/\a≠g
noncomputable abbrev eF (o:Nat) (fv:PV) (bits:Int) (d a g:Nat) (z6 z7:Ao):zd:=[Au o,some fv,some (.int bits),Au d,Au a,Au g,z6,z7]
section
variable {o q b d a g:Nat}{L dc:Ad}{s:aa}{nz z w:Str}{fr as:An}{bits:Int}{z6 z7:Ao}
def BF.kq {s':aa}(B:BF o q b d a g L dc s) (k:Kx [q] s s') (hq:IsT [] s' q):BF o q b d a g L dc s':=by
 obtain ⟨c1,c2,c3,c4,c5,c6,c7,c8,c9⟩:=B.ne
 exact ⟨k _ _ (by simpa using c1) B.H,hq,k _ _ (by simpa using yC c4) B.D,k _ _ (by simpa using yC c5) B.A,k _ _ (by simpa using yC c6) B.G,B.ne⟩
theorem Hi (B:BF o q b d a g L dc s) (ha:∀a∈as,gQ a) (hl:as.length<=1000) (hz:as.any (aW L)=true->z∉L) (l1:L.length<=1000) (l2:dc.length<=1000):∃s1,bF (eF o (.tup (.str nz::fr)) bits d a g (some (bh z w as)) z7) s=.ok (.nx (eF o (.tup (.str nz::fr)) bits d a g (some (bh z w as)) (some .non))) s1/\Kx [q,d,a] s s1 /\
  (as.any (aW L)=true->BF o q b d a g (L++[z]) (dc++[z]) s1)/\(as.any (aW L)=false->BF o q b d a g L dc s1):=by
 obtain ⟨c1,c2,c3,c4,c5,c6,c7,c8,c9⟩:=B.ne
 obtain ⟨s1,E1,q1,k1⟩:=Wn (nz:=nz) (z:=z) (w:=w) B.H B.Q ha hl (d:=d) (L:=L) (.inl ⟨_,B.D,by simp⟩)
 have B1:=B.kq k1 q1
 have MT:∀{c},as.any (aW L)=c->(jF (mB (zq mE (ze (zc 6) zk))) (mB (y3 "makes_later" qM (zc 0) (ze (zh zm (zc 1) (Ar 0)) (ze (zc 6) (ze (zc 3) zk)))))) (eF o (.tup (.str nz::fr)) bits d a g (some (bh z w as)) (some .non)) s=.ok c s1:=λ{c} hc=>mx (zQ (zC (zI (zf rfl)) Hg)) (zQ (GC (zf rfl) B.H (by decide +kernel) (zx rfl) (wH (zl (zf rfl) rfl yG) (zf rfl) (zf rfl)) (by rw [E1,hc])))
 have xU:Kx [q,d,a] s s1:=λm so h e=>k1 _ _ (by simp at h ⊢;exact h.1) e
 cases hany:as.any (aW L) with
 | false =>
  exact ⟨s1,zA (zU (zC (zI (zf rfl)) ur)) (zA (yu (zQ (zl (zf rfl) rfl rfl))) (yu (MT hany))),xU,(λq=>by cases q),λ_=>B1⟩
 | true =>
  have A2:=iX (y:=.str z) B1.A (by simp;omega)
  have k2:Kx [q,d,a] s1 (s1.set a (.lst (dc.map PV.str++[.str z]))):=jQ (by simp)
  have a2:(s1.set a (.lst (dc.map PV.str++[.str z])))[a]?=some (.lst ((dc++[z]).map PV.str)):=by rw [yM (yb B1.A)];simp
  have d2:(s1.set a (.lst (dc.map PV.str++[.str z])))[d]?=some (.dic L (cx L)):=by rw [yh (yC c7)];exact B1.D
  have h2:(s1.set a (.lst (dc.map PV.str++[.str z])))[o]?=some (hG q b):=by rw [yh (yC c3)];exact B1.H
  have Hj:(s1.set a (.lst (dc.map PV.str++[.str z])))[g]?=some (.lst []):=by rw [yh c9];exact B1.G
  have q2:IsT [] (s1.set a (.lst (dc.map PV.str++[.str z]))) q:=B1.Q.kx (ms:=[a]) (jQ (by simp)) (by simpa using c5)
  generalize s1.set a (.lst (dc.map PV.str++[.str z]))=s2 at A2 k2 a2 d2 h2 Hj q2
  have D3:=lh (oo (hz hany)) (fo:=zc 3) (fi:=zh zm (zc 6) (Ar 1)) (fv:=mC (.bl true)) (e:=eF o (.tup (.str nz::fr)) bits d a g (some (bh z w as)) (some .non)) (s:=s2) rfl (zf rfl) (zl (zf rfl) rfl yE) d2 l1
  have et:cx L++[PV.bl true]=cx (L++[z]):=by simp [cx]
  rw [et] at D3
  refine ⟨_,zA (zU (zC (zI (zf rfl)) ur)) (zA (yu (zQ (zl (zf rfl) rfl rfl))) (jp (MT hany) (zA (wF (wZ (zf rfl) B1.A (zl (zf rfl) rfl yE) A2)) D3))),xU.trans (k2.trans (jQ (by simp))),λ_=>⟨?_,?_,yM (yb d2),?_,?_,B.ne⟩,(λq=>by cases q)⟩
  ·rw [yh (yC c2)];exact h2
  ·exact q2.kx (ms:=[d]) (jQ (by simp)) (by simpa using c4)
  ·rw [yh c7];exact a2
  ·rw [yh c8];exact Hj
theorem Wo {ss:An}{r:Ad}{av:PV}(h:gn L ss r):∀{s:aa}{dc:Ad}{z6 z7:Ao},BF o q b d a g L dc s->L.length+ss.length<=1000->dc.length+ss.length<=1000->∃i_ j_ L' s1,forL (gN 6) bF (ss++[bA av]) (eF o (.tup (.str nz::fr)) bits d a g z6 z7) s=.ok (.nx (eF o (.tup (.str nz::fr)) bits d a g i_ j_)) s1/\BF o q b d a g L' (dc++r) s1/\Kx [q,d,a] s s1:=by
 induction h with
 | nil L =>
  intro s dc z6 z7 B h1 h2
  have Bd:bF (eF o (.tup (.str nz::fr)) bits d a g (some (bA av)) z7) s=.ok (.nx (eF o (.tup (.str nz::fr)) bits d a g (some (bA av)) (some .non))) s:=zA (zU (zC (zI (zf rfl)) A9)) (zA (yu (zQ (zl (zf rfl) rfl rfl))) (yu (mw (zQ (zC (zI (zf rfl)) Wl)))))
  exact ⟨_,_,L,s,iY rfl Bd rfl,by rw [List.append_nil];exact B,Kx.refl _ _⟩
 | yes ha hl hany hz r ih =>
  intro s dc z6 z7 B h1 h2
  simp at h1 h2
  obtain ⟨s1,E1,k1,B1,_⟩:=Hi (nz:=nz) (fr:=fr) (bits:=bits) (z7:=z7) B ha hl (λ_=>hz) (by omega) (by omega)
  obtain ⟨i_,j_,L',s2,F,B2,k2⟩:=ih (B1 hany) (by simp;omega) (by simp;omega)
  exact ⟨i_,j_,L',s2,iY rfl E1 F,by rw [wM] at B2;exact B2,k1.trans k2⟩
 | no ha hl hany r ih =>
  intro s dc z6 z7 B h1 h2
  simp at h1 h2
  obtain ⟨s1,E1,k1,_,B1⟩:=Hi (nz:=nz) (fr:=fr) (bits:=bits) (z7:=z7) B ha hl (λq=>by rw [hany] at q;cases q) (by omega) (by omega)
  obtain ⟨i_,j_,L',s2,F,B2,k2⟩:=ih (B1 hany) (by omega) (by omega)
  exact ⟨i_,j_,L',s2,iY rfl E1 F,B2,k1.trans k2⟩
end
theorem Wq {s:aa} {o q b:Nat} (h:s[o]?=some (hG q b)):aS "bits_by_name" insOf excOf (.ref o) s=.ok (.ref b) s:=wj h (by decide +kernel) rfl
theorem Wr {nz:Str} {ps:Ad} {fr:An} (hl:ps.length<=1000) (st:aa):∃q b s1,bI "Holding" qL [.tup [.tup (.str nz :: .tup (ps.map PV.str)::fr)],.tup []] st=.ok (.ref st.length) s1/\s1[st.length]?=some (hG q b)/\IsT [] s1 q/\st.length<q/\Old st s1:=by
 generalize hfv:PV.tup (.str nz :: .tup (ps.map PV.str)::fr)=fv
 let o:=st.length
 let t0:=st++[SO.ins "Holding" [] []]
 have h0:t0[o]?=some (.ins "Holding" [] []):=yp _ _
 obtain ⟨t1,E1,d1,o1⟩:=uf [] (by simp) (by simp) t0
 have lo:o<t0.length:=yb h0
 have h1:=o1 _ _ h0
 have q1:IsT [] t1 t0.length:=by unfold IsT;rw [d1];rfl
 let t2:=t1.set o (.ins "Holding" ["pairs"] [.ref t0.length])
 have h2:t2[o]?=some (.ins "Holding" ["pairs"] [.ref t0.length]):=yM (yb h1)
 have q2:IsT [] t2 t0.length:=q1.kx (ms:=[o]) (jQ (by simp)) (by simp;omega)
 let t3:=t2++[SO.dic [] []]
 have h3:t3[o]?=some (.ins "Holding" ["pairs"] [.ref t0.length]):=zR _ _ _ _ h2
 have lb:=q2.lt
 let t4:=t3.set o (hG t0.length t2.length)
 have h4:t4[o]?=some (hG t0.length t2.length):=yM (yb h3)
 have q4:IsT [] t4 t0.length:=(q2.old (zR _ _)).kx (ms:=[o]) (jQ (by simp)) (by simp;omega)
 have b4:t4[t2.length]?=some (.dic [] []):=by rw [yh (by omega)];exact yp _ _
 obtain ⟨t5,E5,q5,k5,l5⟩:=Vt (f:=nz) (ps:=ps) (r:=fr) hl q4
 rw [hfv] at E5
 have i0:∀{s:aa},zm fv (.int 0) s=.ok (.str nz) s:=by subst hfv;exact yG
 have b5:=k5 _ _ (show t2.length≠t0.length by omega) b4
 have h5:=k5 _ _ (show o≠t0.length by omega) h4
 have D:=lh (oo (z:=nz) (by simp)) (fo:=(yg (aS "bits_by_name" insOf excOf) (zc 0))) (fi:=(zh zm (zc 3) (Ar 0))) (fv:=(zq tX (ze (zc 3) (ze (yg (aS "pairs" insOf excOf) (zc 0)) zk)))) (e:=[Au o,some (.tup [fv]),some (.tup []),some fv]) (s:=t4) (zC (zW (zf rfl) (yX (zf rfl) (GB h4))) E5) (yX (zf rfl) (Wq h5)) (zl (zf rfl) rfl i0) b5 (by simp)
 obtain ⟨t6,uv⟩:∃t6,t6=t5.set t2.length (SO.dic ([]++[nz]) ([]++[PV.int (bq (ps.map λp=>cq (pk nz p) []))])):=⟨_,rfl⟩
 rw [<-uv] at D
 have E:qL [.ref o,.tup [fv],.tup []] t0=.ok .non t6:=k9 rfl (zA (wJ (zC (zI (zf rfl)) E1) (zf rfl) h1 (by decide +kernel) (by decide)) (zA (wJ (x:=.ref t2.length) (s1:=t3) rfl (zf rfl) h3 (by decide +kernel) (by decide)) (k8 (zf rfl) (iY rfl D rfl))))
 refine ⟨t0.length,t2.length,t6,?_,?_,?_,lo,λm so e=>?_⟩
 ·show (qL [.ref o,.tup [fv],.tup []] t0).bind _=_
  rw [E,zG]
  rfl
 ·rw [uv,yh (by omega)];exact h5
 ·rw [uv];exact q5.kx (ms:=[t2.length]) (jQ (by simp)) (by simp;omega)
 ·have hm:=yb e
  rw [uv,yh (by omega)]
  refine k5 _ _ (by omega) ?_
  show (t3.set o _)[m]?=_
  rw [yh (by omega)]
  refine zR _ _ _ _ ?_
  show (t1.set o _)[m]?=_
  rw [yh (by omega)]
  exact o1 _ _ (zR _ _ _ _ e)
section
variable {nz:Str}{ps r:Ad}{b:Int}{ss:An}{a:PV}{s:aa}{o q bb:Nat}
theorem Ws (hb:0<=b) (hp:ps.length<=6) (nd:ps.Nodup) (h:gn (picks (bitAt b) 0 ps) ss r) (hs:ss.length<=900) (lr:r.length<=900) (ho:s[o]?=some (hG q bb)) (hq:IsT [] s q) (oq:o<q) :
  ∃s1,m_Holding_best_form [.ref o,cD nz ps ss a,.int b] s=.ok (dg nz b r) s1/\Kx [q] s s1:=by
 have pl:(picks (bitAt b) 0 ps).length<=ps.length:=wg.length_le
 have LP:=uk (f:=.str nz) (ps:=ps) (r:=[lp ss a]) b hb (by omega) s
 have o1:Old s (s++[SO.lst ((picks (bitAt b) 0 ps).map PV.str)]):=zR _ _
 generalize s++[SO.lst ((picks (bitAt b) 0 ps).map PV.str)]=s1 at LP o1
 obtain ⟨s2,E2,d2,o2⟩:=uf (picks (bitAt b) 0 ps) (nd.sublist wg) (by omega) s1
 let s3:=s2++[SO.lst []]
 let s4:=s3++[SO.lst []]
 have o4:Old s2 s4:=(zR _ _).trans (zR _ _)
 have ld:=yb d2
 have l1:q<s1.length:=(hq.old o1).lt
 have l3:s3.length=s2.length+1:=by simp [s3]
 have B:BF o q bb s1.length s2.length s3.length (picks (bitAt b) 0 ps) [] s4:=⟨o4 _ _ (o2 _ _ (o1 _ _ ho)),((hq.old o1).old o2).old o4,o4 _ _ d2,zR _ _ _ _ (yp _ _),yp _ _,by omega⟩
 obtain ⟨z6,z7,L',s5,F,B5,k5⟩:=Wo (nz:=nz) (fr:=[.tup (ps.map PV.str),lp ss a]) (bits:=b) (av:=a) (z6:=none) (z7:=none) h B (by omega) (by simp;omega)
 refine ⟨s5,zZ rfl (zA (zU (zC (zI (zC (zW (zf rfl) (zf rfl)) LP)) E2)) (zA (zU (we j3 (by simp))) (zA (zU (we j3 (by simp))) (zA (k8 (zC (zI (zl (zf rfl) rfl wx)) (A8 (by omega) s4)) F) (zY (yB (mJ (zl (zf rfl) rfl yG) (zf rfl) (zC (zI (zf rfl)) (by rw [wY,yz B5.A];rfl)) (zC (zI (zf rfl)) (by rw [wY,yz B5.G]))) (by simp))))))),λm so h e=>?_⟩
 have e1:=o1 _ _ e
 have l:=yb e1
 exact k5 _ _ (by simp at h ⊢;omega) (o4 _ _ (o2 _ _ e1))
def Wt (h:∀v∈ss,mP v) (hl:ss.length<=900) (s:aa):∃r s1,qN [cD nz ps ss a,.tup []] s=.ok (.ref r) s1/\s1[r]?=some (.lst [])/\Old s s1:=by
 obtain ⟨s1,E,o1⟩:=Wm (a:=a) h hl s
 refine ⟨s1.length,s1++[.lst []],zZ rfl (zY ?_),yp _ _,o1.trans (zR _ _)⟩
 rw [PJ]
 show (Res.bind (Res.bind _ _) _)=_
 rw [zW (zC (zI (zl (zf rfl) rfl wx)) E) (zf rfl),zG]
 rfl
noncomputable abbrev cB:Aj:=yw
noncomputable abbrev tB:Ak:=(mB (zh j8 (zq yx (ze (zc 7) zk)) (zq yx (ze (zc 5) zk))))
noncomputable abbrev bB:Aj:=(zu (zJ 8 (zh (aP zm) (zc 5) (zq yx (ze (zc 7) zk))))
  (zu (zJ 9 (zh (aP zm) (zc 3) (zh (aP zm) (zc 8) (Ar 0))))
  (zu (zJ 10 (y3 "best_form" tY (zc 4) (ze (zc 9) (ze (zh (aP zm) (zc 8) (Ar 1)) zk))))
  (zu (jb (jh js (zc 7) (zc 10)))
  (jf (yD (zq qN (ze (zc 9) (ze (zh (aP zm) (zc 10) (Ar 3)) zk)))) (gN 11)
  cB)))))
theorem Wu (hb:0<=b) (hp:ps.length<=6) (nd:ps.Nodup) (h:gn (picks (bitAt b) 0 ps) ss r) (hs:ss.length<=900) (lr:r.length<=900) (s:aa) :
  ∃s1,tZ [.tup [cD nz ps ss a],.int b,.tup []] s=.ok (.tup [dg nz b r]) s1/\Old s s1:=by
 let s1:=s++[SO.dic [nz] [cD nz ps ss a]]
 have o1:Old s s1:=zR _ _
 have f1:s1[s.length]?=some (.dic [nz] [cD nz ps ss a]):=yp _ _
 obtain ⟨q,bb,s2,E2,H2,Q2,oq,o2⟩:=Wr (nz:=nz) (ps:=ps) (fr:=[lp ss a]) (by omega) s1
 let s3:=s2++[SO.lst [.tup [.str nz,.int b]]]
 have o3:Old s2 s3:=zR _ _
 have m3:s3[s2.length]?=some (.lst [dC [.inr nz,.inl b]]):=yp _ _
 obtain ⟨s4,E4,q4,o4⟩:=Gw m3
 let s5:=s4++[SO.lst []]
 have o5:Old s4 s5:=zR _ _
 have g5:s5[s4.length]?=some (.lst []):=yp _ _
 have qX:=o3.trans (o4.trans o5)
 have l1:=yb f1
 have lq:=Q2.lt
 have l3:=yb m3
 have m5:=o5 _ _ (o4 _ _ m3)
 have l4:=yb (o4 _ _ m3)
 obtain ⟨s6,E6,k6⟩:=Ws (nz:=nz) (a:=a) hb hp nd h hs lr (qX _ _ H2) (Q2.old qX) oq
 have g6:=k6 _ _ (by simp;omega) g5
 let s7:=s6.set s4.length (.lst ([]++[dg nz b r]))
 have g7:s7[s4.length]?=some (.lst [dg nz b r]):=yM (yb g6)
 obtain ⟨rr,s8,E8,r8,o8⟩:=Wt (nz:=nz) (ps:=ps) (a:=a) h.lets hs s7
 have g8:=o8 _ _ g7
 have m6:=k6 _ _ (by simp;omega) m5
 have m7:s7[s2.length]?=some (.lst [dC [.inr nz,.inl b]]):=by show (s6.set _ _)[s2.length]?=_;rw [yh (by omega)];exact m6
 have m8:=o8 _ _ m7
 have f5:=qX _ _ (o2 _ _ f1)
 have I9:aP zm (.ref s.length) (.str nz) s5=.ok (cD nz ps ss a) s5:=mK f5 (by simp)
 have FO:(jf (yD (zq qN (ze (zc 9) (ze (zh (aP zm) (zc 10) (Ar 3)) zk)))) (gN 11) cB) [some (.tup [cD nz ps ss a]),some (.int b),some (.tup []),Au s.length,Au s1.length,Au s2.length,Au s3.length,Au s4.length,some (dC [.inr nz,.inl b]),some (cD nz ps ss a),some (dg nz b r),none] s7=.ok (.nx _) s8:=GF (zC (zW (zf rfl) (zl (zf rfl) rfl Vs)) E8) r8 (by unfold forR;rw [yz r8];rfl)
 have B:bB [some (.tup [cD nz ps ss a]),some (.int b),some (.tup []),Au s.length,Au s1.length,Au s2.length,Au s3.length,Au s4.length,none,none,none,none] s5=.ok (.nx _) s8:=zA (zU (zl (zf rfl) (zC (zI (zf rfl)) (bp g5)) (G9 (i:=0) m5 rfl))) (zA (zU (zl (zf rfl) (zl (zf rfl) rfl wI) I9)) (zA (zU (GC (zf rfl) (qX _ _ H2) (by decide +kernel) (zx rfl) (zW (zf rfl) (zl (zf rfl) rfl om)) E6)) (zA (wF (wZ (zf rfl) g6 (zf rfl) (iX g6 (by simp)))) FO)))
 have W:cg tB bB 1000000 [some (.tup [cD nz ps ss a]),some (.int b),some (.tup []),Au s.length,Au s1.length,Au s2.length,Au s3.length,Au s4.length,none,none,none,none] s5=.ok (.nx _) s8:=A6 (n:=999999) (zQ (zl (zC (zI (zf rfl)) (bp g5)) (zC (zI (zf rfl)) (bp m5)) (kZ true (by simp) _))) B (A5 999998 (zQ (zl (zC (zI (zf rfl)) (bp g8)) (zC (zI (zf rfl)) (bp m8)) (kZ false (by simp) _))))
 refine ⟨s8,zZ rfl (zA (zU (zC (zI (zf rfl)) (A7 s))) (zA (zU (zC (zW (zf rfl) (zf rfl)) E2)) (zA (zU (we (zI (yB (zW (zl (zl (zf rfl) rfl wI) rfl wI) (zf rfl)) (by simp))) (by simp))) (zA (zU (zC (zI (zf rfl)) E4)) (zA (zU (we j3 (by simp))) (zA W (zY (zC (zI (zf rfl)) (by rw [wY,yz g8]))))))))),λm so e=>?_⟩
 have hm:=yb e
 refine o8 _ _ ?_
 show (s6.set _ _)[m]?=_
 rw [yh (by omega)]
 exact k6 _ _ (by simp;omega) (qX _ _ (o2 _ _ (o1 _ _ e)))
end
def Wv {s:aa}{d:Nat}{ks:Ad}{xs:An}{z:Str}{b:Bool}(h:s[d]?=some (.dic ks xs)) (hb:((ks.zip xs).lookup z).isSome=b):yt true (.str z) (.ref d) s=.ok (.bl (!b)) s:=by
 simp [yt,h,hb]
def ng (LL:Ad) (v:PV):Prop:=∃z w as,v=bh z w as/\(∀a∈as,gQ a)/\as.length<=1000/\(as.any (aW LL)=true->z∈LL)
section
variable {LL:Ad}{d:Nat}{s:aa}{v a:PV}
def Ww (h:ng LL v) (hd:s[d]?=some (.dic LL (cx LL))):∃s1,qv [v,.ref d] s=.ok .non s1/\Old s s1:=by
 obtain ⟨z,w,as,rfl,ha,hl,hz⟩:=h
 have N:=Gr ha hl (L:=LL) (.inl ⟨_,hd,by simp⟩:k7 LL s d)
 have o1:Old s (s++[SO.lst ((as.map (aW LL)).map PV.bl)]):=zR _ _
 have B:decide (bq (as.map (aW LL))≠0)=as.any (aW LL):=by rw [Gq,List.any_map];rfl
 have T:(mB (zh jN (zq mD (ze (zq mF (ze (zc 0) zk)) (ze (zc 1) zk))) (Ar 0))) [some (bh z w as),Au d] s=.ok (as.any (aW LL)) (s++[SO.lst ((as.map (aW LL)).map PV.bl)]):=zQ (zl (zC (zW (zC (zI (zf rfl)) Hh) (zf rfl)) N) rfl (by rw [GD,B]))
 have X:(jF (mB (zh ya (zh zm (zc 0) (Ar 0)) (As "let"))) (jF (mB (zh jN (zq mD (ze (zq mF (ze (zc 0) zk)) (ze (zc 1) zk))) (Ar 0))) (mB (zh (yt true) (zh zm (zc 0) (Ar 1)) (zc 1))))) [some (bh z w as),Au d] s=.ok false (s++[SO.lst ((as.map (aW LL)).map PV.bl)]):=by
  refine mx (q0 rfl (fR _)) ?_
  cases hany:as.any (aW LL) with
  | false=>rw [hany] at T;exact mw T
  | true =>
   rw [hany] at T
   have I:=Wv (z:=z) (b:=true) (o1 _ _ hd) (by rw [AR (by simp)];exact jJ (hz hany))
   exact mx T (zQ (zl (zl (zf rfl) rfl yE) (zf rfl) I))
 exact ⟨_,zZ rfl (zA (yu X) (zA (yu (mw (q0 rfl (cH n1 _)))) (zY rfl))),o1⟩
def Wx:qv [bA a,.ref d] s=.ok .non s:=zZ rfl (zA (yu (mw (q0 rfl (cH Vf _)))) (zA (yu (mw (q0 rfl (cH n3 _)))) (zY rfl)))
end
noncomputable abbrev bN:Aj:=(zu (zJ 6 (zq qv (ze (zc 5) (ze (zc 3) zk))))
  (zu (zT (mB (zh j1 (zc 6) (mC .non)))
  yw
  zX)
  (zu (zJ 7 (zq iT (ze (zc 5) zk)))
  (zT (mB (zh j1 (zc 7) (mC .non)))
  (zu yw
  (zu (zT (mB (zh j1 (zc 6) (mC .non)))
  yw
  zX)
  (pS 4 iM (Ar 1))))
  zX))))
section
variable {nz:Str}{ps r:Ad}{b:Int}{ss:An}{a:PV}
theorem Wy (hb:0<=b) (hp:ps.length<=6) (nd:(picks (bitAt b) 0 ps++r).Nodup) (h:∀v∈ss,ng (picks (bitAt b) 0 ps++r) v) (hs:ss.length<=900) (lr:r.length<=900) (q:Nat) (s:aa):∃s1,x8 [cD nz ps ss a,dg nz b r,.ref q] s=.ok .non s1/\Old s s1:=by
 have pl:(picks (bitAt b) 0 ps).length<=ps.length:=wg.length_le
 have LP:=uk (f:=.str nz) (ps:=ps) (r:=[lp ss a]) b hb (by omega) s
 have o1:Old s (s++[SO.lst ((picks (bitAt b) 0 ps).map PV.str)]):=zR _ _
 generalize s++[SO.lst ((picks (bitAt b) 0 ps).map PV.str)]=s1 at LP o1
 obtain ⟨s2,E2,d2,o2⟩:=uf (picks (bitAt b) 0 ps++r) nd (by simp;omega) s1
 rw [wL] at E2
 obtain ⟨e',s3,F,⟨z5,z6,z7,he⟩,o3⟩:=dr (g:=gN 5) (body:=bN) (ss++[bA a]) (λi e s=>(∃z5 z6 z7,e=[some (cD nz ps ss a),some (dg nz b r),Au q,Au s1.length,some (.int 0),z5,z6,z7])/\Old s2 s) (λi x e s hx ⟨⟨z5,z6,z7,he⟩,o⟩=>by
  subst he
  have hm:=ly hx
  have d:=o _ _ d2
  rcases ju.mp hm with m|m
  ·obtain ⟨s',E,o'⟩:=Ww (h x m) d
   obtain ⟨z,w,as,rfl,_⟩:=h x m
   exact ⟨_,_,s',rfl,zA (zU (zC (zW (zf rfl) (zf rfl)) E)) (zA (yu (zQ (zl (zf rfl) rfl rfl))) (zA (zU (zC (zI (zf rfl)) ur)) (yu (zQ (zl (zf rfl) rfl rfl))))),⟨_,_,_,rfl⟩,o.trans o'⟩
  ·rw [jy.mp m]
   exact ⟨_,_,s,rfl,zA (zU (zC (zW (zf rfl) (zf rfl)) Wx)) (zA (yu (zQ (zl (zf rfl) rfl rfl))) (zA (zU (zC (zI (zf rfl)) A9)) (yu (zQ (zl (zf rfl) rfl rfl))))),⟨_,_,_,rfl⟩,o⟩) (ss++[bA a]).length 0 [some (cD nz ps ss a),some (dg nz b r),Au q,Au s1.length,some (.int 0),none,none,none] s2 (by omega) ⟨⟨none,none,none,rfl⟩,Old.refl _⟩
 subst he
 rw [List.drop_zero] at F
 exact ⟨s3,zZ rfl (zA (zU (zC (zI (zl (zC (zW (zf rfl) (zl (zf rfl) rfl yE)) LP) (zl (zf rfl) rfl wx) (AI (by simp;omega)))) E2)) (zA (zU rfl) (zA (k8 (zC (zI (zl (zf rfl) rfl wx)) (A8 (by omega) s2)) F) (zY rfl)))),o1.trans (o2.trans o3)⟩
def Wz (hb:0<=b) (hp:ps.length<=6) (nd:(picks (bitAt b) 0 ps++r).Nodup) (h:∀v∈ss,ng (picks (bitAt b) 0 ps++r) v) (hs:ss.length<=900) (lr:r.length<=900) (s:aa):∃s1,qw [.tup [cD nz ps ss a],.tup [dg nz b r]] s=.ok .non s1/\Old s s1:=by
 let s1:=s++[SO.dic [nz] [cD nz ps ss a]]
 have o1:Old s s1:=zR _ _
 have C:=Hf (e:=[some (.tup [cD nz ps ss a]),some (.tup [dg nz b r]),Au s.length,none,none,none]) (src:=zc 1) (fe:=yd (ze (zh zm (zc 0) (Ar 0)) (ze (zh zm (zc 0) (Ar 1)) zk))) (f:=λ_=>dC [.inr nz,.inl b]) (s:=s1) (s1:=s1) (xs:=[dg nz b r]) (zf rfl) (by simp) (λx hx=>by rw [jy.mp hx];exact yB (zW (zl (zf rfl) rfl yG) (zl (zf rfl) rfl yE)) (by simp))
 obtain ⟨s3,E3,q3,o3⟩:=Gw (k:=[.inr nz,.inl b]) (st:=s1++[SO.lst [dC [.inr nz,.inl b]]]) (r:=s1.length) (yp _ _)
 have Hk:Old s1 s3:=(zR _ _).trans o3
 obtain ⟨s4,E4,o4⟩:=Wy (nz:=nz) (a:=a) hb hp nd h hs lr (s1++[SO.lst [dC [.inr nz,.inl b]]]).length s3
 have I:zm (.ref s.length) (.str nz) s3=.ok (cD nz ps ss a) s3:=mK (Hk _ _ (yp _ _)) (by simp)
 exact ⟨s4,zZ rfl (zA (zU (zC (zI (zf rfl)) (A7 s))) (zA (zU (zC (zI C) E3)) (zA (k8 (zf rfl) (iY rfl (zA (zU (zC (wH (zl (zf rfl) (zl (zf rfl) rfl yG) I) (zf rfl) (zf rfl)) E4)) (yu (zQ (zl (zf rfl) rfl rfl)))) rfl)) (zY rfl)))),o1.trans (Hk.trans o4)⟩
end
section
variable {st:aa}{f b p:Nat}{B:PV}{ks:Ad}{xs:An}
variable {s s1:aa}{o T La r n q:Nat}{w:Bool}{ks:Ad}{vs:An}{e:zd}
def oz {α:Type}(x:α) (r:List α):cu (x::r) 0=some x:=bt (k:=0) rfl
def oA {α:Type}(x y:α) (r:List α):cu (x::y::r) 1=some y:=bt (k:=1) rfl
def i3:insOf "Op" = true:=by simp [insOf]
def WA (n:Int) (st:aa):mG [.int n] st=.ok (.str "number") st:=by
 have e:∀t,jS isT [.int n,.ty t] st=fO (gZ "int" t) st:=λ_=>rfl
 have t1:gZ "int" "str" = some false:=rfl
 have t2:gZ "int" "tuple" = some false:=rfl
 have t3:gZ "int" "dict" = some false:=rfl
 simp [mG,zL,FL,FK,FJ,FI,e,t1,t2,t3,fO]
def WB (n:Int) (st:aa):tT [.int n] st=.ok (.ref st.length) (st++[.lst []]):=by
 have e:∀t,jS isT [.int n,.ty t] st=fO (gZ "int" t) st:=λ_=>rfl
 have t2:gZ "int" "tuple" = some false:=rfl
 have t3:gZ "int" "dict" = some false:=rfl
 simp [tT,zL,F1,FZ,FY,e,t2,t3,fO]
def WC (n:Int) (st:aa):Ay [.int n] st=.ok (.ref st.length) (st++[.lst [.int n],.lst []]):=by
 let t0:=st++[SO.lst [.int n]]
 have h0:t0[st.length]?=some (.lst [.int n]):=yp _ _
 let t1:=t0++[SO.lst []]
 have h1:t1[st.length]?=some (.lst [.int n]):=zR _ _ _ _ h0
 have X:=Vg h1 (show t1[t0.length]?=some (.lst []) from yp _ _) (by simp)
 rw [List.append_nil,qR h1] at X
 have I0:zm (.ref st.length) (.int 0) t0=.ok (.int n) t0:=by
  show yl t0 st.length _=_
  rw [yz h0]
  rfl
 have et:t1=st++[.lst [.int n],.lst []]:=by simp [t1,t0]
 have L0:yx [.ref st.length] t0=.ok (.int 1) t0:=bp h0
 have L1:yx [.ref st.length] t1=.ok (.int 1) t1:=bp h1
 rw [<-et]
 exact zZ rfl (zA (zU (we (zI (zf rfl)) (by simp))) (zA (zU rfl) (zA (A6 (n:=999999) (zQ (zl (zf rfl) (zC (zI (zf rfl)) L0) (kZ true (by decide) _))) (zA (wF (wZ (zf rfl) h0 (zC (zI (zl (zf rfl) (zf rfl) I0)) (WB n t0)) X)) rfl) (A5 999998 (zQ (zl (zf rfl) (zC (zI (zf rfl)) L1) (kZ false (by decide) _))))) (zY (zf rfl)))))
def uw (n:Int) (st:aa):Az [.int n] st=.ok (.int 1) (st++[.lst [.int n],.lst []]):=by
 have L:yx [.ref st.length] (st++[.lst [.int n],.lst []])=.ok (.int 1) (st++[.lst [.int n],.lst []]):=bp (xs:=[.int n]) (by simp)
 exact zZ rfl (zY (zC (zI (zC (zI (zf rfl)) (WC n st))) L))
end
def A_ (x y:Int) (st:aa):og [.tup [.str "number", .str "number"],.tup [.int x,.int y]] st=.ok .non st:=by
 simp [og,zL,z_,wb,forL,WA]
def WD (x y:PV) (st:aa):og [.tup [.str "any", .str "any"],.tup [x,y]] st=.ok .non st:=by
 simp [og,zL,z_,wb,forL]
theorem Hl (n:Int) (h:n.natAbs<10 ^ 18) (st:aa):qB [.int n] st=.ok (.int n) st:=by
 have h1:(-1000000000000000000:Int)<n:=by omega
 have h2:n<(1000000000000000000:Int):=by omega
 simp [qB,zL,FV,FU,Aq,FT,h1,h2]
def ig (st:aa):wG [.str "add"] st=.ok (.ref st.length) (st++[mN "add" 2]):=by
 simp [wG,zL,qK,qJ,hV,jU,jV,bI,oh,qI,qH,yV,insOf,Mi.putK,cu,fG,yO]
def ik (st:aa):wG [.str "sub"] st=.ok (.ref st.length) (st++[mN "sub" 2]):=by
 simp [wG,zL,qK,qJ,hV,jU,jV,bI,oh,qI,qH,yV,insOf,Mi.putK,cu,fG,yO]
def WE (st:aa):wG [.str "less"] st=.ok (.ref st.length) (st++[mN "less" 2]):=by
 simp [wG,zL,qK,qJ,hV,jU,jV,bI,oh,qI,qH,yV,insOf,Mi.putK,cu,fG,yO]
def WG (st:aa):wG [.str "same"] st=.ok (.ref st.length) (st++[mN "same" 2]):=by
 simp [wG,zL,qK,qJ,hV,jU,jV,bI,oh,qI,qH,yV,insOf,Mi.putK,cu,fG,yO]
def WH (x y:Int) (h:(x+y).natAbs<10 ^ 18) (st:aa):tQ [.tup [.int x,.int y]] st=.ok (.int (x+y)) st:=by
 simp [tQ,zL,FW,oz,oA,Hl _ h]
def WI (x y:Int) (h:(x-y).natAbs<10 ^ 18) (st:aa):tR [.tup [.int x,.int y]] st=.ok (.int (x-y)) st:=by
 simp [tR,zL,FX,oz,oA,Hl _ h]
noncomputable def nb (b:Bool):Int:=if b then 1 else 0
def Hm (b:Bool) (st:aa):tS [.bl b] st=.ok (.int (nb b)) st:=by
 cases b<;>kernel_rfl
def WJ (x y:Int) (st:aa):Aw [.tup [.int x,.int y]] st=.ok (.int (nb (decide (x<y)))) st :=
 zZ rfl (zY (zC (zI (zl (zl (zf rfl) rfl yG) (zl (zf rfl) rfl yE) (xS _ _))) (Hm _ _)))
def WK (x y:Int) (st:aa):Ax [.tup [.int x,.int y]] st=.ok (.int (nb (x==y))) st :=
 zZ rfl (zY (zC (zI (zl (zl (zf rfl) rfl yG) (zl (zf rfl) rfl yE) (qQ _ _ _ rfl _))) (Hm _ _)))
def ux (s:aa) (a b:SO):Old s (s++[a,b]):=zR _ _
def WL (x y:Int) (h:(x+y).natAbs<10 ^ 18):eJ "add" [.int x,.int y] (.int (x+y)):=⟨2,ig,λs o h'=>⟨_,by
 simp [m_Op_answer,zL,qG,qF,qE,qD,qC,mh h',i3,yO,jU,jV,oz,oA,A_,mH,WH x y h,uw],ux s (.lst [.int (x+y)]) (.lst [])⟩⟩
def WM (x y:Int) (h:(x-y).natAbs<10 ^ 18):eJ "sub" [.int x,.int y] (.int (x-y)):=⟨2,ik,λs o h'=>⟨_,by
 simp [m_Op_answer,zL,qG,qF,qE,qD,qC,mh h',i3,yO,jU,jV,oz,oA,A_,mH,WI x y h,uw],ux s (.lst [.int (x-y)]) (.lst [])⟩⟩
def WN (x y:Int):eJ "less" [.int x,.int y] (.int (nb (decide (x<y)))):=⟨2,WE,λs o h'=>⟨_,by
 simp [m_Op_answer,zL,qG,qF,qE,qD,qC,mh h',i3,yO,jU,jV,oz,oA,A_,mH,WJ x y,uw],ux s (.lst [.int (nb (decide (x<y)))]) (.lst [])⟩⟩
def WO (x y:Int):eJ "same" [.int x,.int y] (.int (nb (x==y))):=⟨2,WG,λs o h'=>⟨_,by
 simp [m_Op_answer,zL,qG,qF,qE,qD,qC,mh h',i3,yO,jU,jV,oz,oA,WD,mH,WK x y,uw],ux s (.lst [.int (nb (x==y))]) (.lst [])⟩⟩
inductive At where
 | is (n:Int)|of (z:Str)
noncomputable def At.v:At->PV
 | .is n=>qU (.int n)
 | .of z=>qT z
structure St where
 z:Str
 k:Nat
 a:At
 b:At
noncomputable def eM:Nat->Str
 | 0 => "add"
 | 1 => "sub"
 | 2 => "less"
 | _ => "same"
noncomputable def mQ:Nat->Int->Int->Int
 | 0,x,y=>x+y
 | 1,x,y=>x-y
 | 2,x,y=>nb (decide (x<y))
 | _,x,y=>nb (x==y)
noncomputable def St.v (s:St):PV:=bh s.z (eM s.k) [s.a.v,s.b.v]
abbrev Iv:=List (Str×Option Int)
noncomputable def ev (E:Iv):Ev:=E.map λp=>(p.1,p.2.map PV.int)
noncomputable def bO:Option (Option Int)->Option Int
 | some (some n)=>some n
 | _=>none
noncomputable def seen (E:Iv):At->Option Int
 | .is n=>some n
 | .of z=>bO (E.lookup z)
noncomputable def de (E:Iv):At->At
 | .is n=>.is n
 | .of z=>match bO (E.lookup z) with
  | some n=>.is n
  | none=>.of z
noncomputable def val (E:Iv) (s:St):Option Int:=match seen E s.a,seen E s.b with
 | some x,some y=>some (mQ s.k x y)
 | _,_=>none
noncomputable abbrev nxt (E:Iv) (s:St):Iv:=E++[(s.z,val E s)]
noncomputable def walk:Iv->List St->Iv
 | E,[]=>E
 | E,s::r=>walk (nxt E s) r
noncomputable abbrev fU (E:Iv) (s:St):PV:=bh s.z (eM s.k) [(de E s.a).v,(de E s.b).v]
noncomputable def eO:Iv->List St->An
 | _,[]=>[]
 | E,s::r=>(if (val E s).isNone then [fU E s] else [])++eO (nxt E s) r
noncomputable def e_:Iv->List St->Ad
 | _,[]=>[]
 | E,s::r=>(if (val E s).isNone then [s.z] else [])++e_ (nxt E s) r
def cK (ks:Ad):At->Prop
 | .is n=>n.natAbs<=10 ^ 15
 | .of z=>z∈ks
noncomputable def sm (k:Nat):Nat:=if k<2 then 1 else 0
inductive Wf:Nat->List Str->List St->Prop
 | nil (c:Nat) (ks:Ad):Wf c ks []
 | cons {c:Nat} {ks:Ad} {s:St} {r:List St}:cK ks s.a->cK ks s.b->s.z∉ks->s.k<4->c+sm s.k<=9->Wf (c+sm s.k) (ks++[s.z]) r->Wf c ks (s::r)
def Bd (c:Nat) (E:Iv):Prop:=∀z n,(z,some n)∈E->n.natAbs<=10 ^ 15*2 ^ c
noncomputable def dD (E:Iv):Ad:=(E.filter λp=>p.2.isNone).map (·.1)
noncomputable abbrev keys (E:Iv):Ad:=E.map (·.1)
def WQ (E:Iv):(ev E).map (·.1)=keys E:=by simp [ev,keys]
def Hn (E:Iv) (z:Str) (x:Option Int):ev (E++[(z,x)])=ev E++[(z,x.map PV.int)]:=by simp [ev]
theorem Ho (z:Str):∀E:Iv,(ev E).lookup z=(E.lookup z).map λx=>x.map PV.int
 | []=>rfl
 | (y,x)::E=>by
  have ih:=Ho z E
  unfold ev at ih ⊢
  rw [yJ,yO,yO]
  cases z==y with
  | true=>rfl
  | false=>exact ih
theorem uz {z:Str}:∀{E:Iv},z∈keys E->∃x,E.lookup z=some x/\(z,x)∈E
 | [],h=>nomatch h
 | (y,x)::E,h=>by
  rw [yO]
  by_cases q:z=y
  ·subst q
   exact ⟨x,by simp,jd ..⟩
  ·have q':(z==y)=false:=by simpa using q
   rw [q']
   obtain ⟨x',e,m⟩:=uz (E:=E) ((yF.mp h).resolve_left q)
   exact ⟨x',e,jq _ m⟩
def WR {E:Iv}(nd:(keys E).Nodup) {z:Str}{x y:Option Int}(h:(z,x)∈E) (h':(z,y)∈E):x=y:=by
 obtain ⟨i,hi,ei⟩:=rd h
 obtain ⟨j,hj,ej⟩:=rd h'
 have:i=j:=AH nd (by simpa using hi) (by simpa using hj) (by simp [ei,ej])
 subst this
 rw [ei] at ej
 cases ej
 rfl
def WS {E:Iv}(nd:(keys E).Nodup) {z:Str}(h:z∈keys E):decide (z∈dD E)=(bO (E.lookup z)).isNone:=by
 obtain ⟨x,e,m⟩:=uz h
 rw [e]
 cases x with
 | none =>
  rw [jJ]
  ·rfl
  ·exact jE.mpr ⟨(z,none),List.mem_filter.mpr ⟨m,rfl⟩,rfl⟩
 | some n =>
  rw [jr]
  ·rfl
  ·intro q
   obtain ⟨⟨z',x'⟩,hm,rfl⟩:=jE.mp q
   obtain ⟨m',hn⟩:=List.mem_filter.mp hm
   have:=WR nd m m'
   subst this
   cases hn
def Ba {E:Iv}{a:At}(h:cK (keys E) a):eI (ev E) a.v ((seen E a).map PV.int) (de E a).v:=by
 cases a with
 | is n=>exact .is _
 | of z =>
  obtain ⟨x,e,m⟩:=uz h
  have l:=Ho z E
  rw [e] at l
  cases x with
  | none =>
   have e1:seen E (.of z)=none:=by show bO (E.lookup z)=none;rw [e];rfl
   have e2:de E (.of z)=.of z:=by show (match bO (E.lookup z) with|some n=>At.is n|none=>.of z)=_;rw [e];rfl
   rw [e1,e2]
   exact .la z l
  | some n =>
   have e1:seen E (.of z)=some n:=by show bO (E.lookup z)=_;rw [e];rfl
   have e2:de E (.of z)=.is n:=by show (match bO (E.lookup z) with|some n=>At.is n|none=>.of z)=_;rw [e];rfl
   rw [e1,e2]
   exact .kn z _ l
theorem uA {E:Iv}{c:Nat}(B:Bd c E) {a:At}(h:cK (keys E) a) {n:Int}(e:seen E a=some n):n.natAbs<=10 ^ 15*2 ^ c:=by
 cases a with
 | is m =>
  cases e
  have:1<=2 ^ c:=Nat.one_le_two_pow
  have h:n.natAbs<=10 ^ 15:=h
  exact y4 h (Nat.le_mul_of_pos_right _ (by omega))
 | of z =>
  obtain ⟨x,el,m⟩:=uz h
  have e:bO (E.lookup z)=some n:=e
  rw [el] at e
  cases x with
  | none=>cases e
  | some k=>cases e;exact B _ _ m
def Hq (b:Bool):(nb b).natAbs<=1:=by cases b<;>decide
theorem Hr {k c:Nat}{x y:Int}(hx:x.natAbs<=10 ^ 15*2 ^ c) (hy:y.natAbs<=10 ^ 15*2 ^ c):(mQ k x y).natAbs<=10 ^ 15*2 ^ (c+sm k):=by
 have p:1<=2 ^ c:=Nat.one_le_two_pow
 match k with
 | 0 =>
  show (x+y).natAbs<=10 ^ 15*2 ^ (c+1)
  rw [Nat.pow_succ];omega
 | 1 =>
  show (x-y).natAbs<=10 ^ 15*2 ^ (c+1)
  rw [Nat.pow_succ];omega
 | 2 =>
  show (nb (decide (x<y))).natAbs<=10 ^ 15*2 ^ c
  have:=Hq (decide (x<y));omega
 | k+3 =>
  show (nb (x==y)).natAbs<=10 ^ 15*2 ^ (c+sm (k+3))
  have e:sm (k+3)=0:=zH (by omega)
  rw [e]
  have:=Hq (x==y)
  show _<=10 ^ 15*2 ^ c
  omega
theorem WT {k c:Nat}(hk:k<4) (hc:c+sm k<=9) {x y:Int}(hx:x.natAbs<=10 ^ 15*2 ^ c) (hy:y.natAbs<=10 ^ 15*2 ^ c):eJ (eM k) [.int x,.int y] (.int (mQ k x y)):=by
 have q:=Hr (k:=k) hx hy
 have p:2 ^ (c+sm k)<=2 ^ 9:=Nat.pow_le_pow_right (by decide) hc
 have p9:(2:Nat) ^ 9=512:=by decide
 have q':(mQ k x y).natAbs<10 ^ 18:=by omega
 match k with
 | 0=>exact WL x y q'
 | 1=>exact WM x y q'
 | 2=>exact WN x y
 | 3=>exact WO x y
 | k+4=>omega
def Wf.new {c:Nat}{ks:Ad}{ss:List St}(W:Wf c ks ss):∀s∈ss,s.z∉ks:=by
 induction W with
 | nil=>exact λ_ h=>nomatch h
 | cons h1 h2 h3 h4 h5 r ih =>
  intro s hs
  rcases yF.mp hs with q|q
  ·rw [q];exact h3
  ·exact λz=>ih s q (j4 _ z)
def Wf.nd {c:Nat}{ks:Ad}{ss:List St}(W:Wf c ks ss):ks.Nodup->(ks++ss.map (·.z)).Nodup:=by
 induction W with
 | nil=>exact λh=>by simpa using h
 | cons h1 h2 h3 h4 h5 r ih =>
  intro nd
  have:=ih (List.nodup_append.mpr ⟨nd,by simp,λa ha b hb e=>by rw [jy.mp hb] at e;exact h3 (e▸ha)⟩)
  simpa using this
theorem uB:∀(ss:List St) (E:Iv),(e_ E ss).Sublist (ss.map (·.z))
 | [],_=>.slnil
 | s::r,E=>by
  have ih:=uB r (nxt E s)
  show ((if (val E s).isNone then [s.z] else [])++e_ (nxt E s) r).Sublist (s.z::r.map (·.z))
  cases (val E s).isNone
  ·exact .cons _ ih
  ·exact .cons₂ _ ih
def Hs (E:Iv):(dD E).Sublist (keys E):=List.Sublist.map _ List.filter_sublist
def uC (E:Iv) (s:St):dD (nxt E s)=dD E++(if (val E s).isNone then [s.z] else []):=by
 unfold dD nxt
 rw [List.filter_append,wL]
 cases h:val E s<;>simp [h]
def WU (E:Iv) (s:St):(val E s).isNone=((seen E s.a).isNone||(seen E s.b).isNone):=by
 unfold val
 cases seen E s.a<;>cases seen E s.b<;>rfl
theorem Bd.nxt {c:Nat}{E:Iv}{s:St}(B:Bd c E) (ha:cK (keys E) s.a) (hb:cK (keys E) s.b):Bd (c+sm s.k) (nxt E s):=λz n h=>by
 have pw:2 ^ c<=2 ^ (c+sm s.k):=Nat.pow_le_pow_right (by decide) (by omega)
 rcases ju.mp h with q|q
 ·exact y4 (B z n q) (Nat.mul_le_mul_left _ pw)
 ·have q:=jy.mp q
  cases q':val E s with
  | none=>rw [q'] at q;cases q
  | some m =>
   rw [q'] at q
   cases q
   unfold val at q'
   cases ea:seen E s.a with
   | none=>rw [ea] at q';cases q'
   | some x =>
    cases eb:seen E s.b with
    | none=>rw [ea,eb] at q';cases q'
    | some y =>
     rw [ea,eb] at q'
     cases q'
     exact Hr (uA B ha ea) (uA B hb eb)
def WV {c:Nat}{ks:Ad}{ss:List St}(W:Wf c ks ss):∀{E:Iv}{pre:Ad},keys E=ks->Bd c E->(∀z∈pre,z∈ks)->ks.Nodup->fj (pre++e_ E ss) (ev E) (ss.map St.v) (ev (walk E ss)) (eO E ss):=by
 induction W with
 | nil c ks=>exact λ_ _ _ _=>.nil _
 | cons h1 h2 h3 h4 h5 r ih =>
  rename_i c ks s r'
  intro E pre hk B hp nd
  subst hk
  have mR:(keys E++[s.z]).Nodup:=List.nodup_append.mpr ⟨nd,by simp,λa ha b hb e=>by rw [jy.mp hb] at e;exact h3 (e▸ha)⟩
  have kn:keys (nxt E s)=keys E++[s.z]:=by simp [keys,nxt]
  have B':=B.nxt h1 h2
  have sl:=SL.two (Ba h1) (Ba h2)
  have hz:s.z∉(ev E).map (·.1):=by rw [WQ];exact h3
  show fj (pre++((if (val E s).isNone then [s.z] else [])++e_ (nxt E s) r')) (ev E) (s.v::r'.map St.v) (ev (walk (nxt E s) r')) ((if (val E s).isNone then [fU E s] else [])++eO (nxt E s) r')
  cases hv:val E s with
  | none =>
   have g:=ih (E:=nxt E s) (pre:=pre++[s.z]) kn B' (λz h=>by
    rcases ju.mp h with q|q
    ·exact j4 _ (hp z q)
    ·exact yN _ q) mR
   have ex:ev (nxt E s)=ev E++[(s.z,none)]:=by unfold nxt;rw [Hn,hv];rfl
   rw [ex,wM] at g
   exact .left (yN _ (j4 _ (jy.mpr rfl))) hz sl (by simp) g
  | some v =>
   have g:=ih (E:=nxt E s) (pre:=pre) kn B' (λz h=>j4 _ (hp z h)) mR
   have ex:ev (nxt E s)=ev E++[(s.z,some (.int v))]:=by unfold nxt;rw [Hn,hv];rfl
   rw [ex] at g
   unfold val at hv
   cases ea:seen E s.a with
   | none=>rw [ea] at hv;cases hv
   | some x =>
    cases eb:seen E s.b with
    | none=>rw [ea,eb] at hv;cases hv
    | some y =>
     rw [ea,eb] at hv sl
     cases hv
     refine .ahead (ys:=[.int x,.int y]) ?_ hz sl (by simp) (WT h4 h5 (uA B h1 ea) (uA B h2 eb)) g
     intro q
     rcases ju.mp q with q|q
     ·exact h3 (hp _ q)
     ·obtain ⟨s',Bb,e⟩:=jE.mp ((uB r' (nxt E s)).subset q)
      exact r.new s' Bb (by rw [e];exact yN _ (jy.mpr rfl))
def Ht (a:At):gQ a.v:=by cases a<;>constructor
def Hu {E:Iv}(nd:(keys E).Nodup) {a:At}(h:cK (keys E) a):aW (dD E) a.v=(seen E a).isNone:=by
 cases a with
 | is n=>exact ue _ _
 | of z=>exact (ud _ _).trans (WS nd h)
def WW {E:Iv}(nd:(keys E).Nodup) {s:St}(h1:cK (keys E) s.a) (h2:cK (keys E) s.b):[s.a.v,s.b.v].any (aW (dD E))=(val E s).isNone:=by
 rw [WU,<-Hu nd h1,<-Hu nd h2]
 simp
def Bc {s:St}:∀a∈[s.a.v,s.b.v],gQ a:=λa h=>by
 rcases yF.mp h with q|q
 ·rw [q];exact Ht _
 ·rw [jy.mp q];exact Ht _
def WX {c:Nat}{ks:Ad}{ss:List St}(W:Wf c ks ss):∀{E:Iv},keys E=ks->ks.Nodup->gn (dD E) (ss.map St.v) (e_ E ss)/\∀v∈ss.map St.v,ng (dD E++e_ E ss) v:=by
 induction W with
 | nil c ks=>exact λ_ _=>⟨.nil _,λ_ h=>nomatch h⟩
 | cons h1 h2 h3 h4 h5 r ih =>
  rename_i c ks s r'
  intro E hk nd
  subst hk
  have mR:(keys E++[s.z]).Nodup:=List.nodup_append.mpr ⟨nd,by simp,λa ha b hb e=>by rw [jy.mp hb] at e;exact h3 (e▸ha)⟩
  obtain ⟨i1,i2⟩:=ih (E:=nxt E s) (by simp [keys,nxt]) mR
  have an:=WW nd h1 h2
  have eL:dD E++e_ E (s::r')=dD (nxt E s)++e_ (nxt E s) r':=by
   rw [uC,wM];rfl
  refine ⟨?_,λv hv=>?_⟩
  ·show gn (dD E) (s.v::r'.map St.v) ((if (val E s).isNone then [s.z] else [])++e_ (nxt E s) r')
   have en:=uC E s
   cases hn:(val E s).isNone with
   | true =>
    rw [hn] at en an
    rw [en] at i1
    exact .yes Bc (by simp) an (λq=>h3 ((Hs E).subset q)) i1
   | false =>
    rw [hn] at en an
    rw [en] at i1
    simp at i1
    exact .no Bc (by simp) an i1
  ·rw [eL]
   rcases yF.mp hv with q|q
   ·refine ⟨s.z,eM s.k,_,q,Bc,by simp,λh=>?_⟩
    have nm:∀{a:At},cK (keys E) a->aW (dD (nxt E s)++e_ (nxt E s) r') a.v=aW (dD E) a.v:=λ{a} ha=>by
     cases a with
     | is n=>exact (ue _ _).trans (ue _ _).symm
     | of z =>
      have hz:z∈keys E:=ha
      refine (ud _ _).trans (Eq.trans ?_ (ud _ _).symm)
      have:(z∈dD (nxt E s)++e_ (nxt E s) r')↔z∈dD E:=by
       rw [uC,wM]
       constructor
       ·intro m
        rcases ju.mp m with m|m
        ·exact m
        ·exfalso
         rcases ju.mp m with m|m
         ·split at m
          ·exact h3 (jy.mp m▸hz)
          ·exact nomatch m
         ·obtain ⟨s',Bb,e⟩:=jE.mp ((uB r' (nxt E s)).subset m)
          exact r.new s' Bb (by rw [e];exact j4 _ hz)
       ·exact λm=>j4 _ m
      simp only [this]
    have h':[s.a.v,s.b.v].any (aW (dD E))=true:=by
     rw [<-h]
     simp [nm h1,nm h2]
    rw [an] at h'
    rw [uC,h']
    exact j4 _ (yN _ (jy.mpr rfl))
   ·exact i2 v q
noncomputable def cell (ns:List Int) (k:Nat):Int:=(ns[k]?).getD 0
noncomputable abbrev hj:Str := "hjkl"
noncomputable def sgn (k:Nat):Str:=(⟨#[(Gb.cps.toList[k%26]?).getD 0]⟩:Str)++⟨#[(hj.cps.toList[k/26]?).getD 0]⟩
theorem WY:((List.range 104).map sgn).Nodup:=by decide +kernel
noncomputable def lu:Ad:=["", "a", "b7", "x0zq", "zzzzz"]
noncomputable def pr (b:Nat):Str:=(lu[b]?).getD ""
noncomputable def nA (b a:Nat):Str:=Txt.slice (pr b) none (some (a:Int))
noncomputable def nB (b a:Nat):Str:=Txt.slice (pr b) (some (a:Int)) none
theorem Hv:∀b,b<5->∀a,a<7->(pr b).length<=6/\(nA b a).length<=10/\(nB b a).length<=10:=by decide +kernel
theorem Hw (z:Str) (n:Nat) (hz:z.cps.toList.length=n) (hn:n<=1000) (k:Nat) (h1:k<n) (st:aa):zm (.str z) (.int k) st=.ok (.str ⟨#[(z.cps.toList[k]?).getD 0]⟩) st:=by
 have hl:z.length<=1000000:=by show z.cps.size<=1000000;rw [<-Array.length_toList];omega
 have lt:k<z.cps.toList.length:=by omega
 rw [OZ,OC,zx hl,bt (yo lt),yo lt]
 rfl
noncomputable def qY (ns:List Int):Nat:=(jA (cell ns 0) 5).toNat
noncomputable def uD (ns:List Int):Nat:=(jA (cell ns 1) ((pr (qY ns)).length+1:Nat)).toNat
noncomputable def nm (ns:List Int) (k:Nat):Str:=nA (qY ns) (uD ns)++sgn k++nB (qY ns) (uD ns)
noncomputable abbrev eP (ns:List Int):PV:=.frl (ns.map PV.int)
def WZ (k:Nat):(sgn k).length=2:=by unfold sgn;rw [Str.length_append];rfl
def W0 {A B x y:Str}(h:A++x++B=A++y++B):x=y:=by
 have e:=congrArg (λs:Str=>s.cps.toList) h
 have f:∀s t:Str,(s++t).cps.toList=s.cps.toList++t.cps.toList:=λs t=>by
  show (s.cps++t.cps).toList=_
  simp
 simp only [f,wM] at e
 have e2:=List.append_cancel_right (List.append_cancel_left e)
 cases x;cases y
 simpa [Array.toList_inj] using e2
noncomputable abbrev nms (ns:List Int) (n:Nat):Ad:=(List.range n).map (nm ns)
def Be (ns:List Int) (n:Nat) (h:n<=104):(nms ns n).Nodup:=by
 show List.Pairwise (·≠·) ((List.range n).map (nm ns))
 rw [List.pairwise_map]
 have q:List.Pairwise (·≠·) ((List.range 104).map sgn):=WY
 rw [List.pairwise_map] at q
 have s:(List.range n).Sublist (List.range 104):=List.range_sublist.mpr h
 exact (q.sublist s).imp λ{a b} ne e=>ne (W0 e)
def oB (ns:List Int) (n:Nat):nms ns (n+1)=nms ns n++[nm ns n]:=by simp [nms,List.range_succ]
theorem Hx (ns:List Int) (n:Nat) (h:n<104):nm ns n∉nms ns n:=λm=>by
 have nd:=Be ns (n+1) (by omega)
 rw [oB] at nd
 exact (List.nodup_append.mp nd).2.2 _ m _ (jy.mpr rfl) rfl
theorem mS (ns:List Int) (k:Nat) (st:aa):wf [eP ns,.int (k:Int)] st=.ok (.int (cell ns k)) st:=by
 have L:yx [eP ns] st=.ok (.int (ns.length:Int)) st:=by show yx [.frl _] st=_;simp
 by_cases h:k<ns.length
 ·have a:cu (ns.map PV.int) (k:Int)=some (.int (ns[k]'h)):=bt (by rw [yZ,yo h];rfl)
  have hc:cell ns k=ns[k]:=by simp [cell,h]
  have ix:zm (eP ns) (.int (k:Int)) st=.ok (.int (cell ns k)) st:=by
   show bP (cu (ns.map PV.int) k) st=_
   rw [a,hc];rfl
  exact zZ rfl (j2 (jp (zQ (zl (zf rfl) (zC (zI (zf rfl)) L) (kZ true (by simp;omega) _))) (zY (zl (zf rfl) (zf rfl) ix))))
 ·have hc:cell ns k=0:=by simp [cell,lC (by omega:ns.length<=k)]
  rw [hc]
  exact zZ rfl (zA (yu (zQ (zl (zf rfl) (zC (zI (zf rfl)) L) (kZ false (by simp;omega) _)))) (zY rfl))
theorem Bf (ns:List Int) (k:Nat) (hk:k<104) (st:aa):∃s1,my [eP ns,.int (k:Int)] st=.ok (.str (nm ns k)) s1/\Old st s1:=by
 obtain ⟨b,hb,eb⟩:=eQ (cell ns 0) 5 (by decide)
 have Hy:jA (cell ns 0) 5=(b:Int):=eb
 have bo:qY ns=b:=by unfold qY;rw [Hy];rfl
 obtain ⟨a,ha,ea⟩:=eQ (cell ns 1) ((pr b).length+1) (by omega)
 have ao:uD ns=a:=by unfold uD;rw [bo,ea];rfl
 have bu:=(Hv b hb 0 (by decide)).1
 obtain ⟨_,l1,l2⟩:=Hv b hb a (by omega)
 have ls:=WZ k
 let s1:=st++[SO.lst (lu.map PV.str)]
 have IX:zm (.ref st.length) (.int (b:Int)) s1=.ok (.str (pr b)) s1:=by
  show yl s1 st.length _=_
  rw [yz (yp _ _)]
  have ep:cu (lu.map PV.str) (b:Int)=some (.str (pr b)):=by
   refine bt ?_
   rw [yZ]
   unfold pr
   have:b<lu.length:=hb
   rw [yo this]
   rfl
  rw [ep];rfl
 have M0:yS (.int (cell ns 0)) (.int 5) s1=.ok (.int (b:Int)) s1:=(w4 _ _ (by decide)).trans (by rw [Hy])
 have LN:yx [.str (pr b)] s1=.ok (.int ((pr b).length:Int)) s1:=by
  show (if (pr b).length<=lim then Res.ok (PV.int (pr b).length) s1 else .stuck)=_
  rw [zx (by show (pr b).length<=1000000;omega)]
 have M1:yS (.int (cell ns 1)) (.int (((pr b).length+1:Nat):Int)) s1=.ok (.int (a:Int)) s1:=(w4 _ _ (by omega)).trans (by rw [ea])
 have S1:=Hw Gb 26 (by decide +kernel) (by decide) (k%26) (by omega) s1
 have S2:=Hw hj 4 (by decide +kernel) (by decide) (k/26) (by omega) s1
 have sl:∀lo hi,pO (.str (pr b)) lo hi s1=.ok (.str (Txt.slice (pr b) lo hi)) s1:=λlo hi=>by
  show (if (pr b).length<=lim then Res.ok (PV.str (Txt.slice (pr b) lo hi)) s1 else .stuck)=_
  rw [zx (by show (pr b).length<=1000000;omega)]
 have c0:wf [eP ns,.int 0] s1=.ok (.int (cell ns 0)) s1:=mS ns 0 s1
 have c1:wf [eP ns,.int 1] s1=.ok (.int (cell ns 1)) s1:=mS ns 1 s1
 refine ⟨s1,?_,zR _ _⟩
 unfold nm
 rw [bo,ao]
 exact zZ rfl (zA (zU (zl (we (xs:=lu.map PV.str) rfl (by decide)) (zl (zC (zW (zf rfl) rfl) c0) rfl M0) IX)) (zA (zU (zl (zC (zW (zf rfl) rfl) c1) (zl (zC (zI (zf rfl)) LN) rfl (ua _ 1)) M1)) (zA (zU (zl (zl rfl (zl (zf rfl) rfl (Vd k 26 (by decide))) S1) (zl rfl (zl (zf rfl) rfl (Vc k 26 (by decide) (by decide))) S2) (ad _ _ (by show 1+1<=1000000;omega) _))) (zY (zl (zl (xR (zf rfl) Em (tm (zf rfl)) (sl none (some (a:Int)))) (zf rfl) (ad (nA b a) (sgn k) (by omega) _)) (xR (zf rfl) (tm (zf rfl)) Em (sl (some (a:Int)) none)) (ad (nA b a++sgn k) (nB b a) (by rw [Str.length_append];omega) _))))))
noncomputable def num (c:Int):Int:=c%2000000000000001-1000000000000000
theorem Hz (c:Int):(num c).natAbs<=10 ^ 15:=by
 have:=Int.emod_nonneg c (show (2000000000000001:Int)≠0 by decide)
 have:=Int.emod_lt_of_pos c (show (0:Int)<2000000000000001 by decide)
 unfold num
 omega
def HA (st:aa):sr (.int 10) (.int 15) st=.ok (.int 1000000000000000) st:=by
 have cp:eh 10 15=true:=by decide
 have pw:((10:Int) ^ (15:Int).toNat)=1000000000000000:=by decide
 show (if eh 10 15=true then Res.ok (PV.int (10 ^ (15:Int).toNat)) st else .stuck)=_
 rw [zx cp,pw]
def HB (c:Int) (st:aa):mz [.int c] st=.ok (.int (num c)) st:=by
 have ml:iO (.int 2) (.int 1000000000000000) st=.ok (.int 2000000000000000) st:=Eo _ _ (by decide)
 have md:yS (.int c) (.int 2000000000000001) st=.ok (.int (c%2000000000000001)) st:=(w4 _ _ (by decide)).trans (by rw [t_ _ _ (by decide)])
 exact zZ rfl (zY (zl (zl (zf rfl) (zl (zl rfl (zl rfl rfl (HA _)) ml) rfl (tq _ _)) md) (zl rfl rfl (HA _)) (En _ _)))
theorem Bg {s:aa}{n:Nat}{zs:Ad}(hn:s[n]?=some (.lst (zs.map PV.str))) (c:Int):∃a:At,kU [.int c,.ref n] s=.ok a.v s/\cK zs a:=by
 have M4:yS (.int c) (.int 4) s=.ok (.int (jA c 4)) s:=w4 _ _ (by decide)
 have D4:wt (.int c) (.int 4) s=.ok (.int (jZ c 4)) s:=tu _ _ (by decide) (by decide)
 have LN:yx [.ref n] s=.ok (.int (zs.length:Int)) s:=by rw [bp hn];simp
 have IS:(wA (mB (zh ya (zh yS (zc 0) (Ar 4)) (Ar 0))) (mB (zh ya (zq yx (ze (zc 1) zk)) (Ar 0)))) [some (.int c),Au n] s=.ok true s->∃a:At,kU [.int c,.ref n] s=.ok a.v s/\cK zs a:=λh =>
  ⟨.is (num (jZ c 4)),zZ rfl (j2 (jp h (zY (yB (zW rfl (zC (zI (zl (zf rfl) rfl D4)) (HB _ _))) (by simp))))),Hz _⟩
 by_cases h0:jA c 4=0
 ·exact IS (PY (zQ (zl (zl (zf rfl) rfl M4) rfl (gP true (by simp [h0]) _))))
 have F0:(mB (zh ya (zh yS (zc 0) (Ar 4)) (Ar 0))) [some (.int c),Au n] s=.ok false s:=zQ (zl (zl (zf rfl) rfl M4) rfl (gP false (by simp [h0]) _))
 by_cases hz:zs.length=0
 ·exact IS (qm F0 (zQ (zl (zC (zI (zf rfl)) LN) rfl (gP (i:=(zs.length:Int)) (j:=0) true (jJ (by omega)) _))))
 have G0:(zT (wA (mB (zh ya (zh yS (zc 0) (Ar 4)) (Ar 0))) (mB (zh ya (zq yx (ze (zc 1) zk)) (Ar 0)))) (zP (yd (ze (As "is") (ze (zq mz (ze (zh wt (zc 0) (Ar 4)) zk)) zk)))) zX) [some (.int c),Au n] s=.ok (.nx [some (.int c),Au n]) s:=yu (qm F0 (zQ (zl (zC (zI (zf rfl)) LN) rfl (gP false (jr (by omega)) _))))
 by_cases h1:jA c 4=1
 ·have lt:zs.length-1<zs.length:=by omega
  have IL:zm (.ref n) (.int (-1)) s=.ok (.str (zs[zs.length-1]'lt)) s:=by
   show yl s n _=_
   rw [yz hn,fZ (x:=.str (zs[zs.length-1]'lt)) (by rw [jk,yZ,yo lt];rfl)]
   rfl
  exact ⟨.of (zs[zs.length-1]'lt),zZ rfl (zA G0 (j2 (jp (zQ (zl (zl (zf rfl) rfl M4) rfl (gP true (by simp [h1]) _))) (zY (yB (zW rfl (zl (zf rfl) rfl IL)) (by simp)))))),q_ lt⟩
 ·obtain ⟨j,hj,ej⟩:=eQ (jZ c 4) zs.length (by omega)
  have MJ:yS (.int (jZ c 4)) (.int (zs.length:Int)) s=.ok (.int (j:Int)) s:=(w4 _ _ (by omega)).trans (by rw [ej])
  have IJ:zm (.ref n) (.int (j:Int)) s=.ok (.str (zs[j]'hj)) s:=by
   show yl s n _=_
   rw [yz hn,bt (x:=.str (zs[j]'hj)) (by rw [yZ,yo hj];rfl)]
   rfl
  exact ⟨.of (zs[j]'hj),zZ rfl (zA G0 (zA (yu (zQ (zl (zl (zf rfl) rfl M4) rfl (gP false (by simp [h1]) _)))) (zY (yB (zW rfl (zl (zf rfl) (zl (zl (zf rfl) rfl D4) (zC (zI (zf rfl)) LN) MJ) IJ)) (by simp))))),q_ hj⟩
theorem Bh {g:PV->zd->Option zd}{body:Aj}{n:Nat}(xs:An) (I:Nat->zd->aa->Prop) (at_:∀i e st,I i e st->st[n]?=some (.lst xs)) (step:∀(i:Nat) x e st,xs[i]?=some x->I i e st->∃e1 e2 aA,g (.tup [.int (i:Int),x]) e=some e1/\body e1 st=.ok (.nx e2) aA/\I (i+1) e2 aA) :
  ∀(k i m:Nat) (env:zd) (st:aa),i+k=xs.length->k<m->I i env st->∃bQ bx,dW g body n m i env st=.ok (.nx bQ) bx/\I xs.length bQ bx
 | 0,i,m,env,st,hk,hm,h=>by
  obtain ⟨m,rfl⟩:∃j,m=j+1:=⟨m-1,by omega⟩
  refine ⟨env,st,?_,by rw [<-hk];exact h⟩
  unfold dW
  rw [yz (at_ _ _ _ h),lC (by omega)]
 | k+1,i,m,env,st,hk,hm,h=>by
  obtain ⟨m,rfl⟩:∃j,m=j+1:=⟨m-1,by omega⟩
  have hx:xs[i]?=some (xs[i]'(by omega)):=yo (by omega)
  obtain ⟨e1,e2,aA,q1,q2,q3⟩:=step i _ env st hx h
  obtain ⟨bQ,bx,r,h2⟩:=Bh xs I at_ step k (i+1) m e2 aA (by omega) (by omega) q3
  refine ⟨bQ,bx,?_,h2⟩
  unfold dW
  rw [yz (at_ _ _ _ h),hx]
  simp only
  rw [q1]
  simp only
  rw [q2]
  simp only [zG]
  exact r
def HC {fs:Ah}{g:PV->zd->Option zd}{body:Aj}{e:zd}{s0 s:aa}{r:Nat}{xs:An}{X:Res Fl}(hf:fs e s0=.ok [.ref r] s) (h:s[r]?=some (.lst xs)) (hX:dW g body r (lim+1) 0 e s=X):nS fs g body e s0=X:=by
 rw [O4,hf,zG]
 show ((yl s r _).bind _)=_
 rw [yz h,zG]
 exact hX
noncomputable def cnt:Nat->List St->Nat
 | c,[]=>c
 | c,s::r=>cnt (c+sm s.k) r
theorem HD (s:St):∀(c:Nat) (ss:List St),cnt c (ss++[s])=cnt c ss+sm s.k
 | c,[]=>rfl
 | c,t::r=>HD s (c+sm t.k) r
def Wf.snoc {c:Nat}{ks:Ad}{ss:List St}(W:Wf c ks ss):∀{s:St},cK (ks++ss.map (·.z)) s.a->cK (ks++ss.map (·.z)) s.b->s.z∉ks++ss.map (·.z)->s.k<4->cnt c ss+sm s.k<=9->Wf c ks (ss++[s]):=by
 induction W with
 | nil c ks=>exact λ{s} h1 h2 h3 h4 h5=>.cons (by simpa using h1) (by simpa using h2) (by simpa using h3) h4 h5 (.nil _ _)
 | cons h1 h2 h3 h4 h5 r ih =>
  intro s g1 g2 g3 g4 g5
  rw [yJ,List.append_cons] at g1 g2 g3
  exact .cons h1 h2 h3 h4 h5 (ih g1 g2 g3 g4 g5)
def cK.mem {ks b_:Ad}(h:∀z,z∈ks↔z∈b_) {a:At}(t:cK ks a):cK b_ a:=by
 cases a with
 | is n=>exact t
 | of z=>exact (h z).mp t
def Wf.mem {c:Nat}{ks:Ad}{ss:List St}(W:Wf c ks ss):∀{b_:Ad},(∀z,z∈ks↔z∈b_)->Wf c b_ ss:=by
 induction W with
 | nil c ks=>exact λ_=>.nil _ _
 | cons h1 h2 h3 h4 h5 r ih=>exact λh=>.cons (h1.mem h) (h2.mem h) (λq=>h3 ((h _).mpr q)) h4 h5 (ih λz=>by rw [ju,ju,h z])
noncomputable abbrev ni:Ad:=["add", "sub", "less", "same"]
theorem W2 {k:Nat}(hk:k<4) (s:aa):zm (.ref s.length) (.int (k:Int)) (s++[.lst (ni.map PV.str)])=.ok (.str (eM k)) (s++[.lst (ni.map PV.str)]):=by
 show yl _ _ _=_
 rw [yz (yp _ _),bt (x:=.str (eM k)) (by
  match k with
  | 0=>rfl
  | 1=>rfl
  | 2=>rfl
  | 3=>rfl
  | k+4=>omega)]
 rfl
theorem W3 {k:Nat} (hk:k<4) (s:aa):yt false (.str (eM k)) (.tup [.str "add", .str "sub"]) s=.ok (.bl (decide (k<2))) s:=by
 have h:=Vl false (eM k) ["add", "sub"] s
 have e:(false.xor (decide (eM k∈(["add", "sub"]:Ad))))=decide (k<2):=by
  match k with
  | 0=>decide +kernel
  | 1=>decide +kernel
  | 2=>decide +kernel
  | 3=>decide +kernel
  | k+4=>omega
 rw [e] at h
 exact h
noncomputable abbrev bT:Aj:=(zu (zJ 6 (zh zm (jz (sV ["add", "sub", "less", "same"])) (zh yS (zc 5) (Ar 4))))
  (zu (zT (mB (zh (yt false) (zc 6) (yd (ze (As "add") (ze (As "sub") zk)))))
  (zJ 3 (zh yH (zc 3) (Ar 1)))
  zX)
  (zu (zT (mB (zh kI (zc 3) (Ar 9)))
  (zJ 6 (As "less"))
  zX)
  (zu (zJ 7 (yd (ze (zq kU (ze (zh wt (zc 5) (Ar 4)) (ze (zc 1) zk))) (ze (zq kU (ze (zh wt (zc 5) (Ar 1009)) (ze (zc 1) zk))) zk))))
  (zu (jb (jh js (zc 1) (zq my (ze (zc 0) (ze (zq yx (ze (zc 1) zk)) zk)))))
  (jb (jh js (zc 2) (yd (ze (As "let") (ze (zh zm (zc 1) (yg nL (Ar 1))) (ze (zc 6) (ze (zc 7) zk))))))))))))
noncomputable abbrev eT (ns:List Int) (n r q:Nat) (z4 z5 z6 z7:Ao):zd:=[some (eP ns),Au n,Au r,some (nV q),z4,z5,z6,z7]
theorem W4 {ns:List Int}{n r q k:Nat}{z4 z5 z7:Ao}{s:aa}(hk:k<4) {X:Res Fl}{g:Aj}(h:g (eT ns n r (q+sm k) z4 z5 (some (.str (eM (if 9<q+sm k then 2 else k)))) z7) s=X) :
  (zu (zT (mB (zh (yt false) (zc 6) (yd (ze (As "add") (ze (As "sub") zk))))) (zJ 3 (zh yH (zc 3) (Ar 1))) zX) (zu (zT (mB (zh kI (zc 3) (Ar 9))) (zJ 6 (As "less")) zX) g)) (eT ns n r q z4 z5 (some (.str (eM k))) z7) s=X:=by
 have A:(zT (mB (zh (yt false) (zc 6) (yd (ze (As "add") (ze (As "sub") zk))))) (zJ 3 (zh yH (zc 3) (Ar 1))) zX) (eT ns n r q z4 z5 (some (.str (eM k))) z7) s=.ok (.nx (eT ns n r (q+sm k) z4 z5 (some (.str (eM k))) z7)) s:=by
  have T:(mB (zh (yt false) (zc 6) (yd (ze (As "add") (ze (As "sub") zk))))) (eT ns n r q z4 z5 (some (.str (eM k))) z7) s=.ok (decide (k<2)) s:=zQ (zl (zf rfl) (yB (zW rfl rfl) (by simp)) (W3 hk s))
  by_cases h2:k<2
  ·rw [jJ h2] at T
   have e:sm k=1:=zx h2
   rw [e]
   exact jp T (zU (zl (zf rfl) rfl (ua q 1)))
  ·rw [jr h2] at T
   have e:sm k=0:=zH h2
   rw [e]
   exact yu T
 have B:(zT (mB (zh kI (zc 3) (Ar 9))) (zJ 6 (As "less")) zX) (eT ns n r (q+sm k) z4 z5 (some (.str (eM k))) z7) s=.ok (.nx (eT ns n r (q+sm k) z4 z5 (some (.str (eM (if 9<q+sm k then 2 else k)))) z7)) s:=by
  by_cases h9:9<q+sm k
  ·rw [zx h9]
   exact jp (zQ (zl (zf rfl) rfl (Gf true (jJ (by omega)) _))) (zU rfl)
  ·rw [zH h9]
   exact yu (zQ (zl (zf rfl) rfl (Gf false (jr (by omega)) _)))
 exact zA A (zA B h)
structure Dr (ns:List Int) (m n r q:Nat) (ss:List St) (s0 s:aa):Prop where
 N:s[n]?=some (.lst ((nms ns (m+ss.length)).map PV.str))
 S:s[r]?=some (.lst (ss.map St.v))
 w:Wf 0 (nms ns m) ss
 nm:nms ns (m+ss.length)=nms ns m++ss.map (·.z)
 c:cnt 0 ss=min q 9
 k:Kx [n,r] s0 s
theorem W5 {ns:List Int}{m n r q:Nat}{ss:List St}{s0 s:aa}{z4 z6 z7:Ao}(D:Dr ns m n r q ss s0 s) (ne:n≠r) (hm:m+ss.length<104) (hl:ss.length<=100) (c:Int):∃q' x i_ j_ s1,bT (eT ns n r q z4 (some (.int c)) z6 z7) s=.ok (.nx (eT ns n r q' z4 (some (.int c)) i_ j_)) s1/\Dr ns m n r q' (ss++[x]) s0 s1:=by
 obtain ⟨k,hk,ek⟩:=eQ c 4 (by decide)
 have W6:jA c 4=(k:Int):=ek
 have YR:m<=104:=by omega
 let s1:=s++[SO.lst (ni.map PV.str)]
 have o1:Old s s1:=zR _ _
 have M4:yS (.int c) (.int 4) s1=.ok (.int (k:Int)) s1:=(w4 _ _ (by decide)).trans (by rw [W6])
 obtain ⟨a,EA,ha⟩:=Bg (o1 _ _ D.N) (jZ c 4)
 obtain ⟨b,EB,hb⟩:=Bg (o1 _ _ D.N) (jZ c 1009)
 have LN:yx [.ref n] s1=.ok (.int ((m+ss.length:Nat):Int)) s1:=by rw [bp (o1 _ _ D.N)];simp
 obtain ⟨s2,EN,o2⟩:=Bf ns (m+ss.length) hm s1
 have N2:=o2 _ _ (o1 _ _ D.N)
 have S2:=o2 _ _ (o1 _ _ D.S)
 have A3:=iX (y:=.str (nm ns (m+ss.length))) N2 (by simp;omega)
 have e3:(nms ns (m+ss.length)).map PV.str++[.str (nm ns (m+ss.length))]=(nms ns (m+ss.length+1)).map PV.str:=by rw [oB];simp
 rw [e3] at A3
 let x:St:=⟨nm ns (m+ss.length),if 9<q+sm k then 2 else k,a,b⟩
 have N3:(s2.set n (.lst ((nms ns (m+ss.length+1)).map PV.str)))[n]?=some (.lst ((nms ns (m+ss.length+1)).map PV.str)):=yM (yb N2)
 have S3:(s2.set n (.lst ((nms ns (m+ss.length+1)).map PV.str)))[r]?=some (.lst (ss.map St.v)):=by rw [yh ne];exact S2
 have k3:Kx [n,r] s2 (s2.set n (.lst ((nms ns (m+ss.length+1)).map PV.str))):=jQ (by simp)
 generalize s2.set n (.lst ((nms ns (m+ss.length+1)).map PV.str))=s3 at A3 N3 S3 k3
 have IL:zm (.ref n) (.int (-1)) s3=.ok (.str x.z) s3:=by
  show yl s3 n _=_
  rw [yz N3,fZ (x:=.str x.z) (by
   rw [oB]
   simp
   rfl)]
  rfl
 have A4:=iX (y:=x.v) S3 (by simp;omega)
 have N4:(s3.set r (.lst (ss.map St.v++[x.v])))[n]?=some (.lst ((nms ns (m+ss.length+1)).map PV.str)):=by rw [yh (yC ne)];exact N3
 have S4:(s3.set r (.lst (ss.map St.v++[x.v])))[r]?=some (.lst (ss.map St.v++[x.v])):=yM (yb S3)
 have k4:Kx [n,r] s3 (s3.set r (.lst (ss.map St.v++[x.v]))):=jQ (by simp)
 generalize s3.set r (.lst (ss.map St.v++[x.v]))=s4 at A4 N4 S4 k4
 refine ⟨q+sm k,x,_,_,s4,zA (zU (zl (we (xs:=ni.map PV.str) rfl (by decide)) (zl (zf rfl) rfl M4) (W2 hk s))) (W4 hk (zA (zU (yB (zW (zC (zW (zl (zf rfl) rfl (tu _ _ (by decide) (by decide))) (zf rfl)) EA) (zC (zW (zl (zf rfl) rfl (tu _ _ (by decide) (by decide))) (zf rfl)) EB)) (by simp))) (zA (wF (wZ (zf rfl) (o1 _ _ D.N) (zC (zW (zf rfl) (zC (zI (zf rfl)) LN)) EN) A3)) (wF (wZ (zf rfl) S3 (yB (mJ rfl (zl (zf rfl) rfl IL) (zf rfl) (zf rfl)) (by simp)) A4))))),⟨?_,?_,?_,?_,?_,?_⟩⟩
 ·rw [N4];simp [Nat.add_assoc]
 ·rw [S4];simp
 ·have q1:x.z∉nms ns m++ss.map (·.z):=by rw [<-D.nm];exact Hx ns _ hm
  rw [D.nm] at ha hb
  refine D.w.snoc ha hb q1 ?_ ?_
  ·show (if 9<q+sm k then 2 else k)<4
   split<;>omega
  ·rw [D.c]
   show min q 9+sm (if 9<q+sm k then 2 else k)<=9
   split
   ·show min q 9+0<=9;omega
   ·omega
 ·rw [wo,wL,<-wM,<-D.nm]
  exact oB ns (m+ss.length)
 ·rw [HD,D.c]
  show min q 9+sm (if 9<q+sm k then 2 else k)=min (q+sm k) 9
  have:sm k<=1:=by unfold sm;split<;>omega
  split
  ·show min q 9+0=_;omega
  ·omega
 ·exact D.k.trans ((o1.trans o2).kx.trans (k3.trans k4))
theorem W7 (ns:List Int):∃cs:List Int,cs.length<=30/\dA (ns.map PV.int) (some 10) (some 40)=cs.map PV.int:=by
 refine ⟨(ns.drop (HT.sIx ns.length 0 (some 10))).take (HT.sIx ns.length ns.length (some 40)-HT.sIx ns.length 0 (some 10)),?_,?_⟩
 ·have:HT.sIx ns.length ns.length (some 40)-HT.sIx ns.length 0 (some 10)<=30:=by
   simp [HT.sIx]
   omega
  rw [List.length_take]
  omega
 ·simp [dA,List.map_take,List.map_drop]
theorem W8 (ns:List Int) {m n:Nat}(hm:m<=6) {s:aa}(hn:s[n]?=some (.lst ((nms ns m).map PV.str))):∃ss q s2 s3,x6 [eP ns,.ref n] s=.ok (.ref s.length) s3/\Dr ns m n s.length q ss s2 s3/\Old s s2/\ss.length<=30:=by
 obtain ⟨cs,hc,ec⟩:=W7 ns
 let s1:=s++[SO.lst []]
 let s2:=s1++[SO.lst (cs.map PV.int)]
 have o2:Old s s2:=(zR _ _).trans (zR _ _)
 have ln:=yb hn
 have h2:s2[s1.length]?=some (.lst (cs.map PV.int)):=yp _ _
 have l1:s1.length=s.length+1:=by simp [s1]
 have SL:(l9 (zc 0) (dM (Ar 10)) (dM (Ar 40))) (eT ns n s.length 0 none none none none) s1=.ok (.ref s1.length) s2:=xR (zf rfl) (tm rfl) (tm rfl) (by rw [Oj,ec])
 have D0:Dr ns m n s.length 0 [] s2 s2:=⟨o2 _ _ hn,zR _ _ _ _ (yp _ _),.nil _ _,by simp,rfl,Kx.refl _ _⟩
 obtain ⟨e',s3,F,q,z4,z5,z6,z7,he,ss,W9,D⟩:=Bh (g:=g2 4 5) (body:=bT) (n:=s1.length) (cs.map PV.int) (λi e st=>∃q z4 z5 z6 z7,e=eT ns n s.length q z4 z5 z6 z7/\∃ss,ss.length=i/\Dr ns m n s.length q ss s2 st) (λi e st ⟨q,z4,z5,z6,z7,he,ss,h1,D⟩=>D.k _ _ (by simp;omega) h2) (λi x e st hx ⟨q,z4,z5,z6,z7,he,ss,hi,D⟩=>by
  subst he
  rw [yZ] at hx
  obtain ⟨c,vD,rfl⟩:=Option.map_eq_some_iff.mp hx
  have il:=w9 vD
  obtain ⟨q',x,i_,j_,bx,E,D'⟩:=W5 (z4:=Av i) (z6:=z6) (z7:=z7) D (by omega) (by omega) (by omega) c
  exact ⟨_,_,bx,rfl,E,q',_,_,i_,j_,rfl,ss++[x],by simp [hi],D'⟩) cs.length 0 (lim+1) (eT ns n s.length 0 none none none none) s2 (by simp) (by simp [lim];omega) ⟨0,none,none,none,none,rfl,[],rfl,D0⟩
 subst he
 rw [jk] at W9
 exact ⟨ss,q,s2,s3,zZ rfl (zA (zU (we j3 (by simp))) (zA (zU rfl) (zA (HC (zI SL) h2 F) (zY (zf rfl))))),D,o2,by omega⟩
section
variable {s s1:aa}{n:Nat}{e:zd}
theorem W_ {fe src:Ai}{xs Y:An}(hs:src e s=.ok (.tup xs) s1) (hl:xs.length<=1000) (hy:xs.length=Y.length) (h:∀(i:Nat) x y,xs[i]?=some x->Y[i]?=some y->fe (some x::e) s1=.ok y s1):y8 (yD src) fe e s=.ok (.ref s1.length) (s1++[.lst Y]):=by
 rw [iP,wv,hs,zG]
 show eB _ _ (.im xs) s1=_
 rw [kS,zx (by simp [lim];omega)]
 obtain ⟨ys,s2,C,h1,h2⟩:=mI (fe:=fe) (env:=e) xs (λi ys st=>ys=Y.take i/\st=s1) (λi x ys st hx ⟨h1,h2⟩=>by
  have hi:=w9 hx
  have hq:Y[i]?=some (Y[i]'(by omega)):=yo _
  subst h2
  exact ⟨_,_,h i x _ hx hq,by rw [h1,iW hq],rfl⟩) xs.length 0 [] s1 (by omega) ⟨rfl,rfl⟩
 subst h2
 rw [hy,List.take_length] at h1
 subst h1
 exact C
end
noncomputable def kn (E:Iv):List (Str×Int):=E.filterMap λp=>p.2.map λn=>(p.1,n)
noncomputable abbrev d7 (E:Iv):Ad:=(kn E).map (·.1)
noncomputable abbrev fV (E:Iv):An:=(kn E).map λp=>.int p.2
def HE (E:Iv):∀z∈d7 E,z∈keys E:=λz h=>by
 obtain ⟨⟨z',n⟩,h1,rfl⟩:=jE.mp h
 obtain ⟨⟨y,x⟩,h2,h3⟩:=List.mem_filterMap.mp h1
 cases x with
 | none=>cases h3
 | some k =>
  cases h3
  exact jE.mpr ⟨_,h2,rfl⟩
theorem HF {z:Str}:∀{E:Iv},(keys E).Nodup->((d7 E).zip (fV E)).lookup z=(bO (E.lookup z)).map PV.int
 | [],_=>rfl
 | (y,x)::E,nd=>by
  have mR:=jI.mp nd
  have ih:=HF (z:=z) mR.2
  cases x with
  | none =>
   show ((d7 E).zip (fV E)).lookup z=_
   rw [yO,ih]
   by_cases q:z=y
   ·subst q
    have:z∉d7 E:=λh=>mR.1 (HE E z h)
    rw [<-ih,AO this]
    simp [bO]
   ·have q':(z==y)=false:=by simpa using q
    rw [q']
  | some n =>
   show ((y::d7 E).zip (PV.int n::fV E)).lookup z=_
   rw [List.zip_cons_cons,yO,yO]
   cases z==y with
   | true=>rfl
   | false=>exact ih
def Bi (E:Iv) (s:St):kn (nxt E s)=kn E++(match val E s with|some n=>[(s.z,n)]|none=>[]):=by
 unfold kn nxt
 rw [List.filterMap_append]
 cases val E s<;>rfl
theorem HG (s:St):∀(ss:List St) (E:Iv),walk E (ss++[s])=nxt (walk E ss) s
 | [],_=>rfl
 | t::r,E=>HG s r (nxt E t)
theorem HH (s:St):∀(ss:List St) (E:Iv),eO E (ss++[s])=eO E ss++(if (val (walk E ss) s).isNone then [fU (walk E ss) s] else [])
 | [],E=>by simp [eO,walk]
 | t::r,E=>by
  have:=HH s r (nxt E t)
  show (if (val E t).isNone then [fU E t] else [])++eO (nxt E t) (r++[s])=((if (val E t).isNone then [fU E t] else [])++eO (nxt E t) r)++_
  rw [this,wM];rfl
theorem qZ:∀(ss:List St) (E:Iv),keys (walk E ss)=keys E++ss.map (·.z)
 | [],E=>by simp [walk]
 | s::r,E=>by
  have:=qZ r (nxt E s)
  show keys (walk (nxt E s) r)=_
  rw [this]
  simp [keys,nxt]
def Wf.at {c:Nat}{ks:Ad}{ss:List St}(W:Wf c ks ss):∀{E:Iv}{i:Nat}{s:St},keys E=ks->ks.Nodup->ss[i]?=some s->cK (keys (walk E (ss.take i))) s.a/\cK (keys (walk E (ss.take i))) s.b/\s.z∉keys (walk E (ss.take i))/\s.k<4/\(keys (walk E (ss.take i))).Nodup:=by
 induction W with
 | nil c ks=>exact λ_ _ h=>by simp at h
 | cons h1 h2 h3 h4 h5 r ih =>
  rename_i c ks t r'
  intro E i s hk nd hs
  subst hk
  cases i with
  | zero =>
   cases hs
   exact ⟨h1,h2,h3,h4,nd⟩
  | succ i=>exact ih (E:=nxt E t) (by simp [keys,nxt]) (List.nodup_append.mpr ⟨nd,by simp,λa ha b hb e=>by rw [jy.mp hb] at e;exact h3 (e▸ha)⟩) hs
section
variable {E:Iv}{s:aa}{th:Nat}
def Bj (nd:(keys E).Nodup) (ht:s[th]?=some (.dic (d7 E) (fV E))) {a:At}(h:cK (keys E) a):n6 [a.v,.ref th] s=.ok (de E a).v s:=by
 cases a with
 | is n=>exact zZ rfl (zA (yu (mw (q0 rfl (cH AQ _)))) (zY (zf rfl)))
 | of z =>
  have lk:=HF (z:=z) nd
  cases hv:bO (E.lookup z) with
  | none =>
   rw [hv] at lk
   have e:de E (.of z)=.of z:=by show (match bO (E.lookup z) with|some n=>At.is n|none=>.of z)=_;rw [hv]
   rw [e]
   exact zZ rfl (zA (yu (mx (q0 rfl (fR _)) (zQ (zl (zl (zf rfl) rfl yE) (zf rfl) (uc (b:=false) ht (by rw [lk];rfl)))))) (zY (zf rfl)))
  | some n =>
   rw [hv] at lk
   have e:de E (.of z)=.is n:=by show (match bO (E.lookup z) with|some n=>At.is n|none=>.of z)=_;rw [hv]
   rw [e]
   exact zZ rfl (j2 (jp (mx (q0 rfl (fR _)) (zQ (zl (zl (zf rfl) rfl yE) (zf rfl) (uc (b:=true) ht (by rw [lk];rfl))))) (zY (yB (zW rfl (zl (zf rfl) (zl (zf rfl) rfl yE) (mK ht lk))) (by simp)))))
end
def HI (b:Bool) (s:aa):sy [.bl b] s=.ok (.int (nb b)) s:=by cases b<;>rfl
theorem o1:("sub" : Str) ≠ "add" := by decide +kernel
theorem o2:("less" : Str) ≠ "add" := by decide +kernel
theorem o3:("less" : Str) ≠ "sub" := by decide +kernel
theorem o4:("same" : Str) ≠ "add" := by decide +kernel
theorem o5:("same" : Str) ≠ "sub" := by decide +kernel
theorem o6:("same" : Str) ≠ "less" := by decide +kernel
def Xa {k:Nat}(hk:k<4) (x y:Int) (s:aa):qr [.str (eM k),.int x,.int y] s=.ok (.int (mQ k x y)) s:=by
 match k with
 | 0=>exact zZ rfl (j2 (jp (zQ (zl (zf rfl) rfl (fR _))) (zY (zl (zf rfl) (zf rfl) (tq _ _)))))
 | 1=>exact zZ rfl (zA (yu (zQ (zl (zf rfl) rfl (cH o1 _)))) (j2 (jp (zQ (zl (zf rfl) rfl (fR _))) (zY (zl (zf rfl) (zf rfl) (En _ _))))))
 | 2=>exact zZ rfl (zA (yu (zQ (zl (zf rfl) rfl (cH o2 _)))) (zA (yu (zQ (zl (zf rfl) rfl (cH o3 _)))) (j2 (jp (zQ (zl (zf rfl) rfl (fR _))) (zY (zC (zI (zl (zf rfl) (zf rfl) (xS _ _))) (HI _ _)))))))
 | 3=>exact zZ rfl (zA (yu (zQ (zl (zf rfl) rfl (cH o4 _)))) (zA (yu (zQ (zl (zf rfl) rfl (cH o5 _)))) (zA (yu (zQ (zl (zf rfl) rfl (cH o6 _)))) (zY (zC (zI (zl (zf rfl) (zf rfl) (qQ _ _ _ rfl _))) (HI _ _))))))
 | k+4=>omega
noncomputable abbrev bU:Aj:=(zu (zJ 13 (zq yW (ze (y8 (yD (zh zm (zc 12) (Ar 3))) (zq n6 (ze (zc 0) (ze (zc 8) zk)))) zk)))
  (zT (jF (mB (zh ya (zh zm (zh zm (zc 13) (Ar 0)) (Ar 0)) (As "is"))) (mB (zh ya (zh zm (zh zm (zc 13) (Ar 1)) (Ar 0)) (As "is"))))
  (jD (zc 7) (zh zm (zc 12) (Ar 1)) (zq qr (ze (zh zm (zc 12) (Ar 2)) (ze (zh zm (zh zm (zc 13) (Ar 0)) (Ar 1)) (ze (zh zm (zh zm (zc 13) (Ar 1)) (Ar 1)) zk)))))
  (jb (jh js (zc 11) (yd (ze (As "let") (ze (zh zm (zc 12) (Ar 1)) (ze (zh zm (zc 12) (Ar 2)) (ze (zc 13) zk)))))))))
noncomputable abbrev eU (z0 z1 z2 z3 z4 z5 z6:Ao) (th vl:Nat) (z9 z10 Xb uE z13:Ao):zd:=[z0,z1,z2,z3,z4,z5,z6,Au th,Au vl,z9,z10,Xb,uE,z13,none,none,none,none]
def Bk {E:Iv}{a:At}{n:Int}(h:seen E a=some n):de E a=.is n:=by
 cases a with
 | is m=>cases h;rfl
 | of z =>
  have h:bO (E.lookup z)=some n:=h
  show (match bO (E.lookup z) with|some n=>At.is n|none=>.of z)=_
  rw [h]
def HJ {E:Iv}{a:At}(h:seen E a=none):∃z,de E a=.of z:=by
 cases a with
 | is m=>cases h
 | of z =>
  have h:bO (E.lookup z)=none:=h
  refine ⟨z,?_⟩
  show (match bO (E.lookup z) with|some n=>At.is n|none=>.of z)=_
  rw [h]
theorem Xc {E:Iv}{s:aa}{th vl du:Nat}{z0 z1 z2 z3 z4 z5 z6 z9 z10 z13:Ao}{x:St}{L:An}(nd:(keys E).Nodup) (h1:cK (keys E) x.a) (h2:cK (keys E) x.b) (h3:x.z∉keys E) (h4:x.k<4) (ht:s[th]?=some (.dic (d7 E) (fV E))) (hd:s[du]?=some (.lst L)) (hE:E.length<=100) (hL:L.length<=1000) :
  ∃q8 s1,bU (eU z0 z1 z2 z3 z4 z5 z6 th vl z9 z10 (Au du) (some x.v) z13) s=.ok (.nx (eU z0 z1 z2 z3 z4 z5 z6 th vl z9 z10 (Au du) (some x.v) q8)) s1/\s1[th]?=some (.dic (d7 (nxt E x)) (fV (nxt E x)))/\s1[du]?=some (.lst (L++(if (val E x).isNone then [fU E x] else [])))/\Kx [th,du] s s1:=by
 have ne:th≠du:=λq=>by subst q;rw [ht] at hd;cases hd
 have C:=W_ (e:=eU z0 z1 z2 z3 z4 z5 z6 th vl z9 z10 (Au du) (some x.v) z13) (src:=zh zm (zc 12) (Ar 3)) (fe:=zq n6 (ze (zc 0) (ze (zc 8) zk))) (Y:=[(de E x.a).v,(de E x.b).v]) (s:=s) (s1:=s) (xs:=[x.a.v,x.b.v]) (zl (zf rfl) rfl oj) (by simp) rfl (λi y y' e1 e2=>by
  match i with
  | 0=>cases e1;cases e2;exact zC (zW (zf rfl) (zf rfl)) (Bj nd ht h1)
  | 1=>cases e1;cases e2;exact zC (zW (zf rfl) (zf rfl)) (Bj nd ht h2)
  | i+2=>cases e1)
 let s1:=s++[SO.lst [(de E x.a).v,(de E x.b).v]]
 have k1:Old s s1:=zR _ _
 have T:=zU (i:=13) (zC (zI C) (qW (s:=s)))
 have gK:=k1 _ _ ht
 have Bl:=k1 _ _ hd
 have kl:(d7 E).length<=1000:=by
  have:(kn E).length<=E.length:=List.length_filterMap_le _ _
  simp;omega
 have kz:x.z∉d7 E:=λh=>h3 (HE E _ h)
 have DU:(∃z,de E x.a=.of z)\/(∃n,de E x.a=.is n)/\(∃z,de E x.b=.of z)->val E x=none->∃q8 s1,bU (eU z0 z1 z2 z3 z4 z5 z6 th vl z9 z10 (Au du) (some x.v) z13) s=.ok (.nx (eU z0 z1 z2 z3 z4 z5 z6 th vl z9 z10 (Au du) (some x.v) q8)) s1/\s1[th]?=some (.dic (d7 (nxt E x)) (fV (nxt E x)))/\s1[du]?=some (.lst (L++(if (val E x).isNone then [fU E x] else [])))/\Kx [th,du] s s1:=λhc hv=>by
  have A:=iX (y:=fU E x) Bl (by omega)
  have en:kn (nxt E x)=kn E:=by rw [Bi,hv];simp
  have TF:(jF (mB (zh ya (zh zm (zh zm (zc 13) (Ar 0)) (Ar 0)) (As "is"))) (mB (zh ya (zh zm (zh zm (zc 13) (Ar 1)) (Ar 0)) (As "is")))) (eU z0 z1 z2 z3 z4 z5 z6 th vl z9 z10 (Au du) (some x.v) (some (.tup [(de E x.a).v,(de E x.b).v]))) s1=.ok false s1:=by
   rcases hc with ⟨z,e⟩|⟨⟨n,e⟩,z,e'⟩
   ·rw [e];exact mw (zQ (zl (zl (zl (zf rfl) rfl yG) rfl yG) rfl (cH uo _)))
   ·rw [e,e'];exact mx (zQ (zl (zl (zl (zf rfl) rfl yG) rfl yG) rfl (fR _))) (zQ (zl (zl (zl (zf rfl) rfl yE) rfl yG) rfl (cH uo _)))
  refine ⟨_,_,zA T (ql TF (wF (wZ (zf rfl) Bl (yB (mJ rfl (zl (zf rfl) rfl yE) (zl (zf rfl) rfl wx) (zf rfl)) (by simp)) A))),?_,?_,k1.kx.trans (jQ (by simp))⟩
  ·rw [yh (yC ne),gK]
   unfold d7 fV
   rw [en]
  ·rw [yM (yb Bl),hv];rfl
 cases ea:seen E x.a with
 | none=>exact DU (.inl (HJ ea)) (by unfold val;rw [ea])
 | some n =>
  cases eb:seen E x.b with
  | none=>exact DU (.inr ⟨⟨n,Bk ea⟩,HJ eb⟩) (by unfold val;rw [ea,eb])
  | some n' =>
   have hv:val E x=some (mQ x.k n n'):=by unfold val;rw [ea,eb]
   have e1:=Bk ea
   have e2:=Bk eb
   have ek:d7 (nxt E x)=d7 E++[x.z]:=by unfold d7;rw [Bi,hv];simp
   have ex:fV (nxt E x)=fV E++[.int (mQ x.k n n')]:=by unfold fV;rw [Bi,hv];simp
   rw [e1,e2] at T
   have P:=lh (oo kz) (fo:=zc 7) (fi:=zh zm (zc 12) (Ar 1)) (fv:=zq qr (ze (zh zm (zc 12) (Ar 2)) (ze (zh zm (zh zm (zc 13) (Ar 0)) (Ar 1)) (ze (zh zm (zh zm (zc 13) (Ar 1)) (Ar 1)) zk)))) (e:=eU z0 z1 z2 z3 z4 z5 z6 th vl z9 z10 (Au du) (some x.v) (some (.tup [(At.is n).v,(At.is n').v]))) (s:=s++[SO.lst [(At.is n).v,(At.is n').v]]) (zC (wH (zl (zf rfl) rfl wx) (zl (zl (zf rfl) rfl yG) rfl yE) (zl (zl (zf rfl) rfl yE) rfl yE)) (Xa h4 n n' _)) (zf rfl) (zl (zf rfl) rfl yE) (zR _ _ _ _ ht) kl
   refine ⟨_,_,zA T (jp (mx (zQ (zl (zl (zl (zf rfl) rfl yG) rfl yG) rfl (fR _))) (zQ (zl (zl (zl (zf rfl) rfl yE) rfl yG) rfl (fR _)))) P),?_,?_,(zR _ _).kx.trans (jQ (by simp))⟩
   ·rw [yM (yb (zR _ _ _ _ ht)),ek,ex]
   ·rw [yh ne,zR _ _ _ _ hd,hv]
    simp
inductive lx:Nat->PV->Prop
 | int (n:Nat) (i:Int):lx n (.int i)
 | str (n:Nat) (z:Str):lx n (.str z)
 | tup (n:Nat) (xs:An):(∀x∈xs,lx n x)->lx (n+1) (.tup xs)
theorem HK {n:Nat}:∀{xs:An},(∀x∈xs,Mi.plain x=true/\dep x<=n/\bz x x=true)->bE xs=true/\cZ xs<=n/\eA xs xs=true
 | [],_=>⟨rfl,by simp [cZ],by rw [eA]⟩
 | x::xs,h=>by
  obtain ⟨a,b,c⟩:=h x (jd ..)
  obtain ⟨a',b',c'⟩:=HK λy hy=>h y (jq _ hy)
  exact ⟨by rw [bE,a,a'];rfl,by rw [cZ];omega,by rw [eA,c,c'];rfl⟩
theorem Bm:∀{n:Nat}{x:PV},lx n x->Mi.plain x=true/\dep x<=n/\bz x x=true
 | n,_,.int _ i=>⟨rfl,by simp [dep],by simp [bz]⟩
 | n,_,.str _ z=>⟨rfl,by simp [dep],by simp [bz]⟩
 | n+1,_,.tup _ xs h=>by
  obtain ⟨a,b,c⟩:=HK (n:=n) λx hx=>Bm (h x hx)
  exact ⟨by rw [Mi.plain];exact a,by rw [dep];omega,by rw [bz];exact c⟩
theorem Xd {n:Nat}{x:PV}(h:lx n x) (hn:n<=100) (s:aa):ya x x s=.ok (.bl true) s:=by
 obtain ⟨a,b,c⟩:=Bm h
 unfold ya
 rw [zx ⟨a,a,by omega⟩,c]
def hU {P:PV->Prop}:∀x∈([]:An),P x:=λ_ h=>nomatch h
def bX {P:PV->Prop}{a:PV}{xs:An}(h:P a) (h':∀x∈xs,P x):∀x∈a::xs,P x:=λx hx=>by
 rcases yF.mp hx with q|q
 ·rw [q];exact h
 ·exact h' x q
def Xe {n:Nat}{x:PV}(h:lx n x) (hn:n<=100) (s:aa):jN x x s=.ok (.bl false) s:=by
 obtain ⟨a,b,c⟩:=Bm h
 unfold jN
 rw [zx ⟨a,a,by omega⟩,c]
 rfl
inductive fE:Nat->PV->Prop
 | int (n:Nat) (i:Int):fE n (.int i)
 | str (n:Nat) (z:Str):fE n (.str z)
 | tup (n:Nat) (xs:An):xs.length<=1000->(∀x∈xs,fE n x)->fE (n+1) (.tup xs)
def fE.sml {n:Nat}{x:PV}(h:fE n x):lx n x:=by
 induction h with
 | int n i=>exact .int _ _
 | str n z=>exact .str _ _
 | tup n xs hl h ih=>exact .tup _ _ ih
theorem fE.mono {n:Nat}{x:PV}(h:fE n x):∀{m:Nat},n<=m->fE m x:=by
 induction h with
 | int n i=>exact λ_=>.int _ _
 | str n z=>exact λ_=>.str _ _
 | tup n xs hl h ih =>
  intro m hm
  obtain ⟨m,rfl⟩:∃k,m=k+1:=⟨m-1,by omega⟩
  exact .tup _ _ hl λx hx=>ih x hx (by omega)
theorem HL:∀k,dO (List.replicate k (PV.bl true))=some (List.replicate k true)
 | 0=>rfl
 | k+1=>by rw [List.replicate_succ,dO,HL k];rfl
def Xf {s:aa}{r k:Nat}(h:s[r]?=some (.lst (List.replicate k (.bl true)))):xO [.ref r] s=.ok (.bl true) s:=by
 show (yl s r λ_=>Res.ok r s).bind _=_
 rw [yz h,zG,yz h,HL]
 simp
theorem Xg {n:Nat}{x:PV}(h:fE n x):∀(l:Nat),n<l->∀s,∃s1,iV l [x] s=.ok (.bl true) s1/\Old s s1:=by
 induction h with
 | int n i =>
  intro l hl s
  obtain ⟨l,rfl⟩:∃k,l=k+1:=⟨l-1,by omega⟩
  exact ⟨s,by show qO (iV l) [.int i] s=_;kernel_rfl,Old.refl _⟩
 | str n z =>
  intro l hl s
  obtain ⟨l,rfl⟩:∃k,l=k+1:=⟨l-1,by omega⟩
  exact ⟨s,by show qO (iV l) [.str z] s=_;kernel_rfl,Old.refl _⟩
 | tup n xs hx h ih =>
  intro l hl s
  obtain ⟨l,rfl⟩:∃k,l=k+1:=⟨l-1,by omega⟩
  obtain ⟨ys,s',C,hy,ho⟩:=mI (fe:=zq (iV l) (ze (zc 0) zk)) (env:=[some (.tup xs)]) xs (λi ys s'=>ys=List.replicate i (.bl true)/\Old s s') (λi x ys s' e ⟨hy,ho⟩=>by
   obtain ⟨s2,E2,o2⟩:=ih x (ly e) l (by omega) s'
   exact ⟨_,s2,zC (zI (zf rfl)) E2,by rw [hy,List.replicate_succ'],ho.trans o2⟩) xs.length 0 [] s (by omega) ⟨rfl,Old.refl _⟩
  rw [List.drop_zero] at C
  subst hy
  have IT:jS isT [.tup xs,.ty "tuple"] s=.ok (.bl true) s:=by kernel_rfl
  have CM:y8 (yD (zc 0)) (zq (iV l) (ze (zc 0) zk)) [some (.tup xs)] s=.ok (.ref s'.length) (s'++[.lst (List.replicate xs.length (.bl true))]):=by
   rw [iP,wv,zf rfl,zG]
   show eB _ _ (.im xs) s=_
   rw [kS,zx (by simp [lim];omega)]
   exact C
  refine ⟨s'++[SO.lst (List.replicate xs.length (.bl true))],?_,ho.trans (zR _ _)⟩
  show qO (iV l) [.tup xs] s=_
  exact zZ rfl (j2 (jp (zQ (zC (zW (zf rfl) rfl) IT)) (zY (zC (zI CM) (Xf (yp _ _))))))
def Bn (a:At):fE 1 a.v:=by cases a<;>exact .tup _ _ (by simp) (bX (.str _ _) (bX (by first|exact .int _ _|exact .str _ _) hU))
theorem HM:∀(ss:List St) (E:Iv),∀v∈eO E ss,fE 3 v
 | [],_=>λ_ h=>nomatch h
 | x::r,E=>λv h=>by
  rcases ju.mp h with q|q
  ·split at q
   ·rw [jy.mp q]
    exact .tup _ _ (by simp) (bX (.str _ _) (bX (.str _ _) (bX (.str _ _) (bX (.tup _ _ (by simp) (bX (Bn _) (bX (Bn _) hU))) hU))))
   ·exact nomatch q
  ·exact HM r _ v q
theorem uF:∀(ss:List St) (E:Iv),(eO E ss).length<=ss.length
 | [],_=>ye _
 | x::r,E=>by
  have:=uF r (nxt E x)
  show ((if (val E x).isNone then [fU E x] else [])++eO (nxt E x) r).length<=r.length+1
  rw [wo]
  split<;>simp<;>omega
noncomputable def kv (ns:List Int) (j:Nat):Int:=num (cell ns (4+j)*3+(j:Int))
noncomputable def bC (ns:List Int) (b:Int) (m:Nat):List (Str×Int):=(List.range m).flatMap λj=>if bitAt b j then [] else [(nm ns j,kv ns j)]
def HN (ns:List Int) (b:Int) (m:Nat):bC ns b (m+1)=bC ns b m++(if bitAt b m then [] else [(nm ns m,kv ns m)]):=by simp [bC,List.range_succ]
theorem HP (p:Nat->Bool) (z:Str):∀(l:Ad) (i:Nat),picks p i (l++[z])=picks p i l++(if p (i+l.length) then [z] else [])
 | [],i=>by simp [picks]
 | y::r,i=>by
  have:=HP p z r (i+1)
  rw [List.cons_append]
  unfold picks
  rw [this,j5,show i+1+r.length=i+(r.length+1) by omega]
  cases p i<;>simp
theorem oF (ns:List Int) (b:Int):∀m,picks (λj=>!bitAt b j) 0 (nms ns m)=(bC ns b m).map (·.1)
 | 0=>rfl
 | m+1=>by
  rw [oB,HP,oF ns b m,HN,wL]
  simp
  cases bitAt b m<;>simp
theorem HQ (p:Nat->Bool):∀(l:Ad) (i:Nat),(picks (λj=>!p j) i l++picks p i l).Perm l
 | [],_=>.nil
 | z::r,i=>by
  have ih:=HQ p r (i+1)
  unfold picks
  cases p i
  ·exact .cons _ ih
  ·exact List.perm_middle.trans (.cons _ ih)
def Xh (ns:List Int) (b:Int) (m:Nat):∀z∈(bC ns b m).map (·.1),z∈nms ns m:=λz h=>by
 rw [<-oF] at h
 exact wg.subset h
def HR (ns:List Int) (b:Int) (m:Nat):∀p∈bC ns b m,p.2.natAbs<=10 ^ 15:=λp h=>by
 obtain ⟨j,_,hj⟩:=List.mem_flatMap.mp h
 split at hj
 ·exact nomatch hj
 ·rw [jy.mp hj];exact Hz _
def uG (ns:List Int) (b:Int) (m:Nat):(bC ns b m).length<=m:=by
 have h:((bC ns b m).map (·.1)).length<=(nms ns m).length:=by rw [<-oF];exact wg.length_le
 simpa using h
def HS {b:Int}(hb:0<=b) (j:Nat) (s:aa):wW (.int b) (.int (j:Int)) s=.ok (.int (b/2 ^ j)) s/\wV (.int (b/2 ^ j)) (.int 1) s=.ok (.int (b/2 ^ j%2)) s:=by
 have hc:kQ b (j:Int)=true:=by simp [kQ]
 have nn:0<=b/2 ^ j:=Int.ediv_nonneg hb (Int.pow_nonneg (by decide))
 refine ⟨?_,?_⟩
 ·show (if kQ b (j:Int)=true then Res.ok (PV.int (b/2 ^ (j:Int).toNat)) s else .stuck)=_
  rw [zx hc,Int.toNat_natCast]
 ·show (if c0 (b/2 ^ j) 1=true then Res.ok (PV.int (Builtin.bitAnd (b/2 ^ j) 1)) s else .stuck)=_
  rw [zx rfl,Gy _ nn]
theorem Xi (b:Int) (j:Nat):decide (b/2 ^ j%2=0)=!bitAt b j:=by
 unfold bitAt
 have h1:=Int.emod_nonneg (b/2 ^ j) (show (2:Int)≠0 by decide)
 have h2:=Int.emod_lt_of_pos (b/2 ^ j) (show (0:Int)<2 by decide)
 generalize b/2 ^ j%2=x at h1 h2
 by_cases q:x=0
 ·subst q;decide
 ·have:x=1:=by omega
  subst this;decide
theorem HU {z:Str}{x:PV}:∀{ks:Ad}{xs:An},ks.length=xs.length->z∉ks->((ks++[z]).zip (xs++[x])).lookup z=some x
 | [],[],_,_=>by simp
 | [],_::_,h,_=>by simp at h
 | _::_,[],h,_=>by simp at h
 | k::ks,y::xs,h,hz=>by
  rw [List.cons_append,List.cons_append,List.zip_cons_cons,yO]
  have q:(z==k)=false:=by simpa using λe=>hz (by rw [e];exact jd ..)
  rw [q]
  exact HU (by simpa using h) λm=>hz (jq _ m)
noncomputable abbrev bV:Aj:=(zT (mB (zh ya (zh wV (zh wW (zc 3) (zc 9)) (Ar 1)) (Ar 0)))
  (zu (jD (zc 7) (zc 10) (zq mz (ze (zh yH (zh iO (zq wf (ze (zc 0) (ze (zh yH (Ar 4) (zc 9)) zk))) (Ar 3)) (zc 9)) zk)))
  (jb (jh js (zc 8) (zh zm (zc 7) (zc 10)))))
  zX)
noncomputable abbrev eV (ns:List Int) (m pr:Nat) (b:Int) (z4 z5 z6:Ao) (th vl:Nat) (z9 z10:Ao):zd:=[some (eP ns),some (nV m),Au pr,some (.int b),z4,z5,z6,Au th,Au vl,z9,z10,none,none,none,none,none,none,none]
theorem Xj {ns:List Int}{m pr th vl j:Nat}{b:Int}(hb:0<=b) {z4 z5 z6:Ao}{s:aa}(hj:j<50) (ht:s[th]?=some (.dic ((bC ns b j).map (·.1)) ((bC ns b j).map λp=>.int p.2))) (hv:s[vl]?=some (.lst ((bC ns b j).map λp=>.int p.2))) :
  ∃s1,bV (eV ns m pr b z4 z5 z6 th vl (some (nV j)) (some (.str (nm ns j)))) s=.ok (.nx (eV ns m pr b z4 z5 z6 th vl (some (nV j)) (some (.str (nm ns j))))) s1/\s1[th]?=some (.dic ((bC ns b (j+1)).map (·.1)) ((bC ns b (j+1)).map λp=>.int p.2))/\s1[vl]?=some (.lst ((bC ns b (j+1)).map λp=>.int p.2))/\Kx [th,vl] s s1:=by
 have ne:th≠vl:=λq=>by subst q;rw [ht] at hv;cases hv
 obtain ⟨A1,A2⟩:=HS hb j s
 have T:∀{c},bitAt b j=c->(mB (zh ya (zh wV (zh wW (zc 3) (zc 9)) (Ar 1)) (Ar 0))) (eV ns m pr b z4 z5 z6 th vl (some (nV j)) (some (.str (nm ns j)))) s=.ok (!c) s:=λ{c} hc=>zQ (zl (zl (zl (zf rfl) (zf rfl) A1) rfl A2) rfl (gP (!c) (by rw [Xi,hc]) _))
 have ll:=uG ns b j
 rw [HN]
 cases hc:bitAt b j with
 | true=>exact ⟨s,yu (T hc),by rw [ht];simp,by rw [hv];simp,Kx.refl _ _⟩
 | false =>
  have kz:nm ns j∉(bC ns b j).map (·.1):=λh=>Hx ns j (by omega) (Xh ns b j _ h)
  have cl:=mS ns (4+j) s
  have ml:iO (.int (cell ns (4+j))) (.int 3) s=.ok (.int (cell ns (4+j)*3)) s:=Eo _ _ (by simp [kG])
  have P:=lh (oo kz) (fo:=zc 7) (fi:=zc 10) (fv:=zq mz (ze (zh yH (zh iO (zq wf (ze (zc 0) (ze (zh yH (Ar 4) (zc 9)) zk))) (Ar 3)) (zc 9)) zk)) (e:=eV ns m pr b z4 z5 z6 th vl (some (nV j)) (some (.str (nm ns j)))) (s:=s) (zC (zI (zl (zl (zC (zW (zf rfl) (zl rfl (zf rfl) (ua 4 j))) cl) rfl ml) (zf rfl) (tq _ _))) (HB _ _)) (zf rfl) (zf rfl) ht (by simp;omega)
  have t1:(s.set th (.dic ((bC ns b j).map (·.1)++[nm ns j]) (((bC ns b j).map λp=>PV.int p.2)++[.int (kv ns j)])))[th]?=some (.dic ((bC ns b j).map (·.1)++[nm ns j]) (((bC ns b j).map λp=>PV.int p.2)++[.int (kv ns j)])):=yM (yb ht)
  have v1:(s.set th (.dic ((bC ns b j).map (·.1)++[nm ns j]) (((bC ns b j).map λp=>PV.int p.2)++[.int (kv ns j)])))[vl]?=some (.lst ((bC ns b j).map λp=>.int p.2)):=by rw [yh ne];exact hv
  have k1:Kx [th,vl] s (s.set th (.dic ((bC ns b j).map (·.1)++[nm ns j]) (((bC ns b j).map λp=>PV.int p.2)++[.int (kv ns j)]))):=jQ (by simp)
  have P:jD _ _ _ _ _=.ok _ (s.set th (.dic ((bC ns b j).map (·.1)++[nm ns j]) (((bC ns b j).map λp=>PV.int p.2)++[.int (kv ns j)]))):=P
  generalize s.set th (.dic ((bC ns b j).map (·.1)++[nm ns j]) (((bC ns b j).map λp=>PV.int p.2)++[.int (kv ns j)]))=s1 at P t1 v1 k1
  have A:=iX (y:=.int (kv ns j)) v1 (by simp;omega)
  refine ⟨_,jp (T hc) (zA P (wF (wZ (zf rfl) v1 (zl (zf rfl) (zf rfl) (mK t1 (HU (by simp) kz))) A))),?_,?_,k1.trans (jQ (by simp))⟩
  ·rw [yh (yC ne),t1];simp
  ·rw [yM (yb v1)];simp
theorem HV {ft:Ak}{fe:Ai}{env:zd}{st:aa}{p:Nat->Bool}{n:Nat}(zs:Ad) (hn:st[n]?=some (.lst (zs.map PV.str))) (h:∀(j:Nat) z,ft (some (.int j)::some (.str z)::env) st=.ok (p j) st) (h':∀(j:Nat) z,fe (some (.int j)::some (.str z)::env) st=.ok (.str z) st) :
  ∀(k i m:Nat) (ys:An),i+k=zs.length->k<m->fD ft fe env n m i ys st=.ok (.ref st.length) (st++[.lst (ys++(picks p i (zs.drop i)).map PV.str)])
 | 0,i,m,ys,hk,hm=>by
  obtain ⟨m,rfl⟩:∃j,m=j+1:=⟨m-1,by omega⟩
  unfold fD
  rw [yz hn,lC (by simp;omega),lz (by omega)]
  simp [picks]
 | k+1,i,m,ys,hk,hm=>by
  obtain ⟨m,rfl⟩:∃j,m=j+1:=⟨m-1,by omega⟩
  have hi:i<zs.length:=by omega
  have hx:(zs.map PV.str)[i]?=some (.str (zs[i]'hi)):=by rw [yZ,yo hi];rfl
  have ih:=HV (ft:=ft) (fe:=fe) (env:=env) (p:=p) zs hn h h' k (i+1) m
  unfold fD
  rw [yz hn,hx]
  simp only
  rw [h i _,j0,zG,jW hi]
  unfold picks
  cases hp:p i with
  | true =>
   rw [zx rfl,zx rfl,h' i _,j0,zG,ih _ (by omega) (by omega)]
   simp
  | false=>rw [zH (by simp),zH (by simp),ih _ (by omega) (by omega)]
noncomputable abbrev e0 (ns:List Int) (b:Int) (m:Nat):Iv:=((bC ns b m).map λp=>(p.1,some p.2))++(picks (bitAt b) 0 (nms ns m)).map λz=>(z,none)
noncomputable abbrev fW (ns:List Int) (b:Int) (m:Nat):List (Str×PV):=(bC ns b m).map λp=>(p.1,.int p.2)
section
variable (ns:List Int) (b:Int) (m:Nat)
def Xk:ev (e0 ns b m)=e9 (fW ns b m)++fS (picks (bitAt b) 0 (nms ns m)):=by simp [ev,e0,e9,fS,fW];rfl
def HW:keys (e0 ns b m)=picks (λj=>!bitAt b j) 0 (nms ns m)++picks (bitAt b) 0 (nms ns m):=by
 rw [oF]
 show List.map _ (_++_)=_
 rw [wL,List.map_map,List.map_map]
 congr 1
 exact List.map_id _
def HX:(keys (e0 ns b m)).Perm (nms ns m):=by rw [HW];exact HQ _ _ _
def Xl:kn (e0 ns b m)=bC ns b m:=by
 unfold kn e0
 rw [List.filterMap_append,List.filterMap_map,List.filterMap_map]
 have h1:List.filterMap ((λp:Str×Option Int=>p.2.map λn=>(p.1,n))∘λp:Str×Int=>(p.1,some p.2)) (bC ns b m)=bC ns b m:=by
  rw [show ((λp:Str×Option Int=>p.2.map λn=>(p.1,n))∘λp:Str×Int=>(p.1,some p.2))=some from rfl,List.filterMap_some]
 have h2:List.filterMap ((λp:Str×Option Int=>p.2.map λn=>(p.1,n))∘λz:Str=>(z,none)) (picks (bitAt b) 0 (nms ns m))=[]:=List.filterMap_eq_nil_iff.mpr λ_ _=>rfl
 rw [h1,h2,List.append_nil]
def Xm:dD (e0 ns b m)=picks (bitAt b) 0 (nms ns m):=by
 unfold dD e0
 rw [List.filter_append,wL]
 have h1:List.filter (λp:Str×Option Int=>p.2.isNone) ((bC ns b m).map λp=>(p.1,some p.2))=[]:=List.filter_eq_nil_iff.mpr λp hp=>by
  obtain ⟨q,_,rfl⟩:=jE.mp hp
  simp
 have h2:List.filter (λp:Str×Option Int=>p.2.isNone) ((picks (bitAt b) 0 (nms ns m)).map λz=>(z,none))=(picks (bitAt b) 0 (nms ns m)).map λz=>(z,none):=List.filter_eq_self.mpr λp hp=>by
  obtain ⟨q,_,rfl⟩:=jE.mp hp
  rfl
 rw [h1,h2,List.map_map]
 exact List.map_id _
def Xn:Bd 0 (e0 ns b m):=λz n h=>by
 rcases ju.mp h with q|q
 ·obtain ⟨p,hp,e⟩:=jE.mp q
  cases e
  simpa using HR ns b m p hp
 ·obtain ⟨p,_,e⟩:=jE.mp q
  cases e
theorem Xo:(e0 ns b m).length<=2*m:=by
 have h1:=uG ns b m
 have h2:(picks (bitAt b) 0 (nms ns m)).length<=(nms ns m).length:=wg.length_le
 simp at h2 ⊢
 omega
end
theorem Xp (ns:List Int) {b:Int}(hb:0<=b) {m:Nat}(hm:m<=6) {ss:List St}(W:Wf 0 (nms ns m) ss) (hs:ss.length<=30) {a:At}(ha:cK (nms ns m++ss.map (·.z)) a) :
  One (nm ns 25) (nms ns m) b (fW ns b m) (ss.map St.v) a.v (e_ (e0 ns b m) ss) (eO (e0 ns b m) ss) (de (walk (e0 ns b m) ss) a).v (S (brk ((bC ns b m).map λp=>qS p.2))) /\
  (∀s,∃s1,tZ [.tup [cD (nm ns 25) (nms ns m) (ss.map St.v) a.v],.int b,.tup []] s=.ok (.tup [dg (nm ns 25) b (e_ (e0 ns b m) ss)]) s1/\Old s s1) /\
  (∀s,∃s1,qw [.tup [cD (nm ns 25) (nms ns m) (ss.map St.v) a.v],.tup [dg (nm ns 25) b (e_ (e0 ns b m) ss)]] s=.ok .non s1/\Old s s1):=by
 have pm:=HX ns b m
 have HY:=Be ns m (by omega)
 have nd:(keys (e0 ns b m)).Nodup:=pm.nodup_iff.mpr HY
 have W':Wf 0 (keys (e0 ns b m)) ss:=W.mem λz=>pm.mem_iff.symm
 have kl:=uG ns b m
 have lt:=(uB ss (e0 ns b m))
 have ll:=lt.length_le
 rw [jk] at ll
 have HZ:=W'.nd nd
 have H8:(dD (e0 ns b m)++e_ (e0 ns b m) ss).Nodup:=HZ.sublist (List.Sublist.append (Hs _) lt)
 obtain ⟨l1,l2⟩:=WX W' rfl nd
 rw [Xm] at l1 l2 H8
 have kk:(fW ns b m).map (·.1)=(bC ns b m).map (·.1):=by simp [fW]
 have dl:=uF ss (e0 ns b m)
 have A':cK (keys (walk (e0 ns b m) ss)) a:=by
  rw [qZ]
  exact ha.mem λz=>by rw [ju,ju,pm.mem_iff]
 refine ⟨⟨hb,by rw [kk,oF],by simpa using hm,HZ.sublist (lt.trans (List.sublist_append_right _ _)),by omega,?_,⟨_,_,?_,Ba A'⟩,by simp;omega,by omega,λs=>?_⟩,λs=>Wu hb (by simpa using hm) HY l1 (by simp;omega) (by omega) s,λs=>Wz hb (by simpa using hm) H8 l2 (by simp;omega) (by omega) s⟩
 ·rw [kk,<-oF,<-HW];exact nd
 ·have g:=WV W' (pre:=[]) rfl (Xn ns b m) (λ_ h=>nomatch h) nd
  rw [List.nil_append,Xk] at g
  exact g
 ·refine VG (by simp [fW]) (by simp [fW];omega) (λi v l hv hl=>?_) s
  rw [yZ,yZ] at hv
  rw [yZ] at hl
  cases hp:(bC ns b m)[i]? with
  | none=>rw [hp] at hv;cases hv
  | some p =>
   rw [hp] at hv hl
   cases hv;cases hl
   have:=HR ns b m p (ly hp)
   exact VF (by omega)
theorem Xq (ns:List Int):∃m b ss a pr nN sT s,m<=6/\0<=b/\Wf 0 (nms ns m) ss/\ss.length<=30/\cK (nms ns m++ss.map (·.z)) a/\s[pr]?=some (.lst ((nms ns m).map PV.str))/\s[sT]?=some (.lst (ss.map St.v)) /\
  ∀{X:Res Fl},F9 [some (eP ns),some (nV m),Au pr,some (.int b),Au nN,Au sT,some a.v,none,none,none,none,none,none,none,none,none,none,none] s=X->F_ [some (eP ns),none,none,none,none,none,none,none,none,none,none,none,none,none,none,none,none,none] []=X:=by
 obtain ⟨m,hm,em⟩:=eQ (cell ns 2) 7 (by decide)
 have M1:yS (.int (cell ns 2)) (.int 7) []=.ok (nV m) []:=(w4 _ _ (by decide)).trans (by rw [show jA (cell ns 2) 7=(m:Int) from em])
 obtain ⟨ys,s1,C,hy⟩:=U_ (fe:=zq my (ze (zc 1) (ze (zc 0) zk))) (fs:=ze (zc 1) zk) (env:=[some (eP ns),some (nV m),none,none,none,none,none,none,none,none,none,none,none,none,none,none,none,none]) (st:=[]) m (by omega) (zI (zf rfl)) (λi ys s=>ys=(nms ns i).map PV.str) (λi ys s hi h=>by
  obtain ⟨s2,E2,o2⟩:=Bf ns i (by omega) s
  exact ⟨_,s2,zC (zW (zf rfl) (zf rfl)) E2,by rw [h,oB];simp⟩) rfl
 subst hy
 let sA:=s1++[SO.lst ((nms ns m).map PV.str)]
 have hA:sA[s1.length]?=some (.lst ((nms ns m).map PV.str)):=yp _ _
 have p2:(0:Int)<2 ^ m:=Int.pow_pos (by decide)
 have M3:yS (.int (cell ns 3)) (.int (2 ^ m)) sA=.ok (.int (cell ns 3%2 ^ m)) sA:=(w4 _ _ (by omega)).trans (by rw [t_ _ _ p2])
 have hb:0<=cell ns 3%2 ^ m:=Int.emod_nonneg _ (by omega)
 let sB:=sA++[SO.lst ((nms ns m).map PV.str)]
 have hB:sB[sA.length]?=some (.lst ((nms ns m).map PV.str)):=yp _ _
 obtain ⟨ss,q,s2,s3,ES,D,o2,hs⟩:=W8 ns (by omega) hB
 obtain ⟨a,EA,ha⟩:=Bg D.N (cell ns 4)
 rw [D.nm] at ha
 have lA:=yb hA
 have lB:sA.length<sB.length:=yb hB
 refine ⟨m,cell ns 3%2 ^ m,ss,a,s1.length,sA.length,sB.length,s3,by omega,hb,D.w,hs,ha,D.k _ _ (by simp;omega) (o2 _ _ (zR _ _ _ _ hA)),D.S,λh=>?_⟩
 exact zA (zU (zl (zC (zW (zf rfl) rfl) (mS ns 2 [])) rfl M1)) (zA (zU C) (zA (zU (zl (zC (zW (zf rfl) rfl) (mS ns 3 sA)) (zl rfl (zf rfl) (Vu m (by omega) sA)) M3)) (zA (zU (zC (zI (zf rfl)) (Ve hA))) (zA (zU (zC (zW (zf rfl) (zf rfl)) ES)) (zA (zU (zC (zW (zC (zW (zf rfl) rfl) (mS ns 4 s3)) (zf rfl)) EA)) h)))))
theorem zxB (ns:List Int):∃st,Ga [.frl (ns.map .int)] []=.ok (.bl true) st:=by
 obtain ⟨m,b,ss,a,pr,nN,sT,s3,hm,hb,W,hs,ha,h2,h5,PRE⟩:=Xq ns
 obtain ⟨O,BE,BR⟩:=Xp ns hb hm W hs ha
 have pm:=HX ns b m
 have nd:(keys (e0 ns b m)).Nodup:=pm.nodup_iff.mpr (Be ns m (by omega))
 have W':Wf 0 (keys (e0 ns b m)) ss:=W.mem λz=>pm.mem_iff.symm
 have l2:=yb h2
 have l5:=yb h5
 let sE:=s3++[SO.dic [] []]++[SO.lst []]
 let th:=s3.length
 let vl:=(s3++[SO.dic [] []]).length
 have oE:Old s3 sE:=(zR _ _).trans (zR _ _)
 have lv:vl=th+1:=by simp [vl,th]
 have tE:sE[th]?=some (.dic ((bC ns b 0).map (·.1)) ((bC ns b 0).map λp=>.int p.2)):=zR _ _ _ _ (yp _ _)
 have vE:sE[vl]?=some (.lst ((bC ns b 0).map λp=>.int p.2)):=yp _ _
 have pE:=oE _ _ h2
 obtain ⟨eF,sF,FF,⟨y9,q9,Xr⟩,tF,vF,kF⟩:=Bh (g:=g2 9 10) (body:=bV) (n:=pr) ((nms ns m).map PV.str) (λi e s=>(∃z9 z10,e=eV ns m pr b (Au nN) (Au sT) (some a.v) th vl z9 z10)/\s[th]?=some (.dic ((bC ns b i).map (·.1)) ((bC ns b i).map λp=>.int p.2))/\s[vl]?=some (.lst ((bC ns b i).map λp=>.int p.2))/\Kx [th,vl] sE s) (λi e s ⟨_,_,_,k⟩=>k _ _ (by simp;omega) pE) (λi x e s hx ⟨⟨z9,z10,he⟩,ht,hv,k⟩=>by
  subst he
  rw [yZ] at hx
  obtain ⟨z,hz,rfl⟩:=Option.map_eq_some_iff.mp hx
  have il:=w9 hz
  simp at il
  have ez:z=nm ns i:=by
   rw [yZ,List.getElem?_range il] at hz
   cases hz;rfl
  subst ez
  obtain ⟨s1,E1,t1,v1,k1⟩:=Xj (m:=m) (pr:=pr) (z4:=Au nN) (z5:=Au sT) (z6:=some a.v) hb (by omega) ht hv
  exact ⟨_,_,s1,rfl,E1,⟨_,_,rfl⟩,t1,v1,k.trans k1⟩) (nms ns m).length 0 (lim+1) (eV ns m pr b (Au nN) (Au sT) (some a.v) th vl none none) sE (by simp) (by simp [lim];omega) ⟨⟨none,none,rfl⟩,tE,vE,Kx.refl _ _⟩
 subst Xr
 have Xs:((nms ns m).map PV.str).length=m:=by simp
 rw [Xs] at tF vF
 let sG:=sF++[SO.lst []]
 let du:=sF.length
 have oG:Old sF sG:=zR _ _
 have Xt:=Xl ns b m
 have tG:sG[th]?=some (.dic (d7 (walk (e0 ns b m) (ss.take 0))) (fV (walk (e0 ns b m) (ss.take 0)))):=by
  have:walk (e0 ns b m) (ss.take 0)=e0 ns b m:=rfl
  rw [this]
  unfold d7 fV
  rw [Xt]
  exact oG _ _ tF
 have dG:sG[du]?=some (.lst (eO (e0 ns b m) (ss.take 0))):=yp _ _
 have H9:=kF _ _ (by simp;omega) (oE _ _ h5)
 have Bo:=oG _ _ H9
 have YS:sT<du:=yb H9
 have YT:th<du:=yb tF
 have YU:vl<du:=yb vF
 have Xu:=Xo ns b m
 obtain ⟨eH,sH,FH,⟨H_,Ia,Xv⟩,tH,dH,kH⟩:=AF (g:=gN 12) (body:=bU) (n:=sT) (ss.map St.v) (λi e s=>(∃uE z13,e=eU (some (eP ns)) (some (nV m)) (Au pr) (some (.int b)) (Au nN) (Au sT) (some a.v) th vl y9 q9 (Au du) uE z13)/\s[th]?=some (.dic (d7 (walk (e0 ns b m) (ss.take i))) (fV (walk (e0 ns b m) (ss.take i))))/\s[du]?=some (.lst (eO (e0 ns b m) (ss.take i)))/\Kx [th,du] sG s) (λi e s ⟨_,_,_,k⟩=>k _ _ (by simp;omega) Bo) (λi x e s hx ⟨⟨uE,z13,he⟩,ht,hd,k⟩=>by
  subst he
  rw [yZ] at hx
  obtain ⟨y,hy,rfl⟩:=Option.map_eq_some_iff.mp hx
  have il:=w9 hy
  obtain ⟨a1,a2,a3,a4,a5⟩:=W'.at rfl nd hy
  have wl:(walk (e0 ns b m) (ss.take i)).length<=100:=by
   have h:=congrArg List.length (qZ (ss.take i) (e0 ns b m))
   simp only [jk,wo,List.length_take] at h
   simp only [e0,wo,jk] at h Xu ⊢
   omega
  have dl:=uF (ss.take i) (e0 ns b m)
  have tl:(ss.take i).length<=30:=by rw [List.length_take];omega
  obtain ⟨z',s1,E1,t1,d1,k1⟩:=Xc (z0:=some (eP ns)) (z1:=some (nV m)) (z2:=Au pr) (z3:=some (.int b)) (z4:=Au nN) (z5:=Au sT) (z6:=some a.v) (vl:=vl) (z9:=y9) (z10:=q9) (z13:=z13) a5 a1 a2 a3 a4 ht hd wl (by omega)
  refine ⟨_,_,s1,rfl,E1,⟨_,_,rfl⟩,?_,?_,k.trans k1⟩
  ·rw [t1,iW hy,HG]
  ·rw [d1,iW hy,HH]) (ss.map St.v).length 0 (lim+1) (eU (some (eP ns)) (some (nV m)) (Au pr) (some (.int b)) (Au nN) (Au sT) (some a.v) th vl y9 q9 (Au du) none none) sG (by omega) (by simp [lim];omega) ⟨⟨none,none,rfl⟩,tG,dG,Kx.refl _ _⟩
 subst Xv
 rw [jk,List.take_length] at tH dH
 have pH:=kH _ _ (by simp;omega) (oG _ _ (kF _ _ (by simp;omega) pE))
 have Xw:=kH _ _ (by simp;omega) Bo
 have vH:=kH _ _ (by simp;omega) (oG _ _ vF)
 have CE:=HV (ft:=mB (zh ya (zh wV (zh wW (zc 5) (zc 0)) (Ar 1)) (Ar 1))) (fe:=zc 1) (env:=eU (some (eP ns)) (some (nV m)) (Au pr) (some (.int b)) (Au nN) (Au sT) (some a.v) th vl y9 q9 (Au du) H_ Ia) (p:=bitAt b) (nms ns m) pH (λj z=>by
  obtain ⟨A1,A2⟩:=HS hb j sH
  exact zQ (zl (zl (zl (zf rfl) (zf rfl) A1) rfl A2) rfl (xT _ _))) (λj z=>zf rfl) (nms ns m).length 0 (lim+1) [] (by omega) (by simp [lim];omega)
 rw [List.nil_append,List.drop_zero] at CE
 have Xx:(sU (ze (zc 2) zk) (mB (zh ya (zh wV (zh wW (zc 5) (zc 0)) (Ar 1)) (Ar 1))) (zc 1)) (eU (some (eP ns)) (some (nV m)) (Au pr) (some (.int b)) (Au nN) (Au sT) (some a.v) th vl y9 q9 (Au du) H_ Ia) sH=.ok (.ref sH.length) (sH++[.lst ((picks (bitAt b) 0 (nms ns m)).map PV.str)]):=by
  unfold sU
  rw [zI (zf rfl),zG]
  show (yl sH pr λ_=>Res.ok pr sH).bind _=_
  rw [yz pH,zG]
  exact CE
 let sI:=sH++[SO.lst ((picks (bitAt b) 0 (nms ns m)).map PV.str)]
 have oI:Old sH sI:=zR _ _
 obtain ⟨sJ,EJ,Xy⟩:=Bf ns 25 (by decide) sI
 have oJ:=oI.trans Xy
 obtain ⟨sK,EK,Xz⟩:=BE sJ
 have oK:=oJ.trans Xz
 obtain ⟨l,hl,el⟩:=eQ (cell ns 5) 200 (by decide)
 have ML:yS (.int (cell ns 5)) (.int 200) sK=.ok (nV l) sK:=(w4 _ _ (by decide)).trans (by rw [show jA (cell ns 5) 200=(l:Int) from el])
 obtain ⟨sL,EL,XB⟩:=Wd (Lm:=1+l) O BR (by omega) sK
 have oL:=oK.trans XB
 have TU:∀{s:aa} {n:Nat} {xs:An},s[n]?=some (.lst xs)->yW [.ref n] s=.ok (.tup xs) s:=λh=>by rw [wY,yz h]
 have kx:(fW ns b m).map (·.2)=(bC ns b m).map λp=>PV.int p.2:=by simp [fW]
 have XC:yW [.ref vl] sK=.ok (.tup ((fW ns b m).map (·.2))) sK:=by rw [kx];exact TU (oK _ _ vH)
 have SM:fE 7 (.tup [mO (nms ns m) b (eO (e0 ns b m) ss) (de (walk (e0 ns b m) ss) a).v]):=.tup _ _ (by simp) (bX (.tup _ _ (by simp) (bX (.str _ _) (bX (.tup _ _ (by have:(picks (bitAt b) 0 (nms ns m)).length<=(nms ns m).length:=wg.length_le;simp at this ⊢;omega) λx hx=>by obtain ⟨z,_,rfl⟩:=jE.mp hx;exact .str _ _) (bX (.tup _ _ (by simp) (bX (.tup _ _ (by have:=uF ss (e0 ns b m);omega) λx hx=>HM ss _ x hx) (bX (.tup _ _ (by simp) (bX (.str _ _) (bX ((Bn _).mono (by omega)) hU))) hU))) hU)))) hU)
 have SK:fE 7 (.tup [cf (nm ns 25) b ((fW ns b m).map (·.2))]):=.tup _ _ (by simp) (bX (.tup _ _ (by simp) (bX (.str _ _) (bX (.int _ _) (bX (.tup _ _ (by have:=uG ns b m;simp;omega) λx hx=>by rw [kx] at hx;obtain ⟨p,_,rfl⟩:=jE.mp hx;exact .int _ _) hU)))) hU)
 obtain ⟨sM,EM,XD⟩:=Xg (.tup _ _ (by simp) (bX SM (bX SK hU)):fE 8 (.tup [.tup [mO (nms ns m) b (eO (e0 ns b m) ss) (de (walk (e0 ns b m) ss) a).v],.tup [cf (nm ns 25) b ((fW ns b m).map (·.2))]])) 12 (by decide) sL
 have oM:=oL.trans XD
 have IT:jS isT [.tup [.tup [mO (nms ns m) b (eO (e0 ns b m) ss) (de (walk (e0 ns b m) ss) a).v],.tup [cf (nm ns 25) b ((fW ns b m).map (·.2))]],.ty "tuple"] sL=.ok (.bl true) sL:=by kernel_rfl
 have XE:(keys (walk (e0 ns b m) ss)).Nodup:=by rw [qZ];exact W'.nd nd
 have A':cK (keys (walk (e0 ns b m) ss)) a:=by
  rw [qZ]
  exact ha.mem λz=>by rw [ju,ju,pm.mem_iff]
 have LF:=Bj XE (oM _ _ tH) A'
 have XF:yW [.ref vl] sM=.ok (.tup ((fW ns b m).map (·.2))) sM:=by rw [kx];exact TU (oM _ _ vH)
 refine ⟨sM,zZ rfl (PRE (zA (zU rfl) (zA (zU (we j3 (by simp))) (zA (HC (zI (zf rfl)) pE FF) (zA (zU (we j3 (by simp))) (zA (GF (zf rfl) Bo FH) (zA (zU (zC (zI Xx) qW)) (zA (zU (zC (zW (zf rfl) rfl) EJ)) (zA (zU (yB (zI (yB (wH (zf rfl) (zC (zI (zf rfl)) (TU (oJ _ _ pH))) (yB (zW (zC (zI (zf rfl)) (TU (oJ _ _ Xw))) (yB (zW rfl (zf rfl)) (by simp))) (by simp))) (by simp))) (by simp))) (zA (zU (zC (mJ (zf rfl) (zC (wH (zf rfl) (zf rfl) (yB j3 (by simp))) EK) (zC (zI (zf rfl)) XC) (zl rfl (zl (zC (zW (zf rfl) rfl) (mS ns 5 sK)) rfl ML) (ua 1 l))) EL)) (zA (yu (qm (xQ (b:=true) (zQ (zC (zW (zf rfl) rfl) IT))) (qm (xQ (b:=true) (zQ (zC (zI (zf rfl)) EM))) (zQ (zl (zC (zI (zf rfl)) (PH _)) rfl (P1 _ _)))))) (zA (yu (zQ (zl (zl (zf rfl) rfl yE) (yB (zI (yB (wH (zf rfl) (zf rfl) (zC (zI (zf rfl)) XF)) (by simp))) (by simp)) (Xe SK.sml (by decide) _)))) (zY (zl (zl (zf rfl) rfl yG) (yB (zI (yB (wH rfl (zf rfl) (yB (zW (zC (zI (zf rfl)) (TU (oM _ _ dH))) (yB (zW rfl (zC (zW (zf rfl) (zf rfl)) LF)) (by simp))) (by simp))) (by simp))) (by simp)) (Xd SM.sml (by decide) _)))))))))))))))⟩
end FK62
open PySem PySem.W PyProof.Rows
set_option maxHeartbeats 0
namespace PySem.W.Fast
def tw2744477370586412845:=()
def tw903178115906803736:=()
local macro_rules
|`(command|#print $s:str)=>do
 let c<-(s.getString.splitOn " ").toArray.flatMapM λw=>do
  let [p,a,b]:=w.splitOn "_"|Lean.Macro.throwUnsupported
  (Array.range (b.toNat!+1-a.toNat!)).mapM λk=>do
   let n:=Lean.mkIdent (.mkSimple s!"tw{((`hdT).str s!"{p}_{a.toNat!+k}").hash}")
   `(command|def $n := ())
 return Lean.mkNullNode c
#print "o_43_46 o_49_547 o_550_906 heap_39_39 heap_46_46 heap_907_907 tree_47_47 tree_132_132 tree_180_180 tree_231_231 tree_272_272 tree_294_294 tree_316_316 tree_338_338 tree_395_395 tree_488_488 tree_511_511 tree_547_547 tree_607_607 tree_630_630 tree_666_666 tree_714_714 tree_744_744 tree_824_824 tree_906_906 sts_49_49 sts_133_133 sts_181_181 sts_232_232 sts_273_273 sts_295_295 sts_317_317 sts_339_339 sts_396_396 sts_489_489 sts_512_512 sts_550_550 sts_608_608 sts_631_631 sts_667_667 sts_715_715 sts_745_745 sts_825_825 env_41_41 view_39_39"
end PySem.W.Fast
open_top hdT for PySem.Challenge.rw_foreknown_k62_straight_lines_made
theorem PySem.Challenge.cw_foreknown_k62_straight_lines_made_holds : PySem.Challenge.rw_foreknown_k62_straight_lines_made.Holds :=
 hdT (by
 k_fill
 refine Mi.walkM (l:=PySem.Challenge.rw_foreknown_k62_straight_lines_made) (k:=15) (x := "_law_script") rfl rfl ⟨rfl,by decide,by decide⟩ (λw h Y=>PySem.W.kIn_of Y) ?F
 case F =>
  intro w mg fa h KX G hmg
  have n_KeyRing:Mi.NwF (L2.KOf KX) mg "KeyRing" "KeyRing.__init__" FK62.zfl ["self", "limit"]:=by
   dsimp only [L2.KOf]
   refine' Mi.zby KX G ?aC ?mk ?kc ?a ?i ?l ?c ?k ?b
   case aC|mk|kc|a|i|l|c|k=>k_is
   (case b=>exact λ_ _ _ _ _ _ us hl=>match us,hl with|[_,_],_=>rfl)
  have m_KeyRing_name_for:Mi.MtF (L2.KOf KX) mg "KeyRing" "name_for" "KeyRing.name_for" FK62.zfn ["self", "key"]:=by
   dsimp only [L2.KOf]
   refine' Mi.wE KX G ?aC ?pg ?hd ?po ?sa ?a ?i ?l ?c ?k ?b
   case aC|pg|hd|po|sa|a|i|l|c|k=>k_is
   (case b=>exact λ_ _ _ _ _ _ us hl=>match us,hl with|[_,_],_=>rfl)
  have n_Known:Mi.NwF (L2.KOf KX) mg "Known" "Known.__init__" FK62.zfp ["self", "value"]:=by
   dsimp only [L2.KOf]
   refine' Mi.zby KX G ?aC ?mk ?kc ?a ?i ?l ?c ?k ?b
   case aC|mk|kc|a|i|l|c|k=>k_is
   (case b=>exact λ_ _ _ _ _ _ us hl=>match us,hl with|[_,_],_=>rfl)
  have n_Later:Mi.NwF (L2.KOf KX) mg "Later" "Later.__init__" FK62.zfq ["self", "name"]:=by
   dsimp only [L2.KOf]
   refine' Mi.zby KX G ?aC ?mk ?kc ?a ?i ?l ?c ?k ?b
   case aC|mk|kc|a|i|l|c|k=>k_is
   (case b=>exact λ_ _ _ _ _ _ us hl=>match us,hl with|[_,_],_=>rfl)
  have n_Making:Mi.NwF (L2.KOf KX) mg "Making" "Making.__init__" FK62.zfr ["self", "ring", "function", "form", "values"]:=by
   dsimp only [L2.KOf]
   refine' Mi.zby KX G ?aC ?mk ?kc ?a ?i ?l ?c ?k ?b
   case aC|mk|kc|a|i|l|c|k=>k_is
   (case b=>exact λ_ _ _ _ _ _ us hl=>match us,hl with|[_,_,_,_,_],_=>rfl)
  have m_Making_things_at:Mi.MtF (L2.KOf KX) mg "Making" "things_at" "Making.things_at" FK62.zdD ["self", "atoms"]:=by
   dsimp only [L2.KOf]
   refine' Mi.wE KX G ?aC ?pg ?hd ?po ?sa ?a ?i ?l ?c ?k ?b
   case aC|pg|hd|po|sa|a|i|l|c|k=>k_is
   (case b=>exact λ_ _ _ _ _ _ us hl=>match us,hl with|[_,_],_=>rfl)
  have m_Known_atom:Mi.MtF (L2.KOf KX) mg "Known" "atom" "Known.atom" FK62.zfs ["self"]:=by
   dsimp only [L2.KOf]
   refine' Mi.wE KX G ?aC ?pg ?hd ?po ?sa ?a ?i ?l ?c ?k ?b
   case aC|pg|hd|po|sa|a|i|l|c|k=>k_is
   (case b=>exact λ_ _ _ _ _ _ us hl=>match us,hl with|[_],_=>rfl)
  have m_Later_atom:Mi.MtF (L2.KOf KX) mg "Later" "atom" "Later.atom" FK62.zft ["self"]:=by
   dsimp only [L2.KOf]
   refine' Mi.wE KX G ?aC ?pg ?hd ?po ?sa ?a ?i ?l ?c ?k ?b
   case aC|pg|hd|po|sa|a|i|l|c|k=>k_is
   (case b=>exact λ_ _ _ _ _ _ us hl=>match us,hl with|[_],_=>rfl)
  have m_Making_left_let:Mi.MtF (L2.KOf KX) mg "Making" "left_let" "Making.left_let" FK62.zdE ["self", "step"]:=by
   dsimp only [L2.KOf]
   refine' Mi.wE KX G ?aC ?pg ?hd ?po ?sa ?a ?i ?l ?c ?k ?b
   case aC|pg|hd|po|sa|a|i|l|c|k=>k_is
   (case b=>exact λ_ _ _ _ _ _ us hl=>match us,hl with|[_,_],_=>rfl)
  have m_Op_answer:Mi.MtF (L2.KOf KX) mg "Op" "answer" "Op.answer" FK62.zfu ["self", "values"]:=by
   dsimp only [L2.KOf]
   refine' Mi.wE KX G ?aC ?pg ?hd ?po ?sa ?a ?i ?l ?c ?k ?b
   case aC|pg|hd|po|sa|a|i|l|c|k=>k_is
   (case b=>exact λ_ _ _ _ _ _ us hl=>match us,hl with|[_,_],_=>rfl)
  have n_Op:Mi.NwF (L2.KOf KX) mg "Op" "Op.__init__" FK62.zfv ["self", "word"]:=by
   dsimp only [L2.KOf]
   refine' Mi.zby KX G ?aC ?mk ?kc ?a ?i ?l ?c ?k ?b
   case aC|mk|kc|a|i|l|c|k=>k_is
   (case b=>exact λ_ _ _ _ _ _ us hl=>match us,hl with|[_,_],_=>rfl)
  have m_Making_answer_ahead:Mi.MtF (L2.KOf KX) mg "Making" "answer_ahead" "Making.answer_ahead" FK62.zdF ["self", "step"]:=by
   dsimp only [L2.KOf]
   refine' Mi.wE KX G ?aC ?pg ?hd ?po ?sa ?a ?i ?l ?c ?k ?b
   case aC|pg|hd|po|sa|a|i|l|c|k=>k_is
   (case b=>exact λ_ _ _ _ _ _ us hl=>match us,hl with|[_,_],_=>rfl)
  have m_Making_made_end:Mi.MtF (L2.KOf KX) mg "Making" "made_end" "Making.made_end" FK62.zfw ["self", "end", "place"]:=by
   dsimp only [L2.KOf]
   refine' Mi.wE KX G ?aC ?pg ?hd ?po ?sa ?a ?i ?l ?c ?k ?b
   case aC|pg|hd|po|sa|a|i|l|c|k=>k_is
   (case b=>exact λ_ _ _ _ _ _ us hl=>match us,hl with|[_,_,_],_=>rfl)
  have m_Making_made_block:Mi.MtF (L2.KOf KX) mg "Making" "made_block" "Making.made_block" FK62.zfx ["self", "block", "place"]:=by
   dsimp only [L2.KOf]
   refine' Mi.wE KX G ?aC ?pg ?hd ?po ?sa ?a ?i ?l ?c ?k ?b
   case aC|pg|hd|po|sa|a|i|l|c|k=>k_is
   (case b=>exact λ_ _ _ _ _ _ us hl=>match us,hl with|[_,_,_],_=>rfl)
  have n_Holding:Mi.NwF (L2.KOf KX) mg "Holding" "Holding.__init__" FK62.zfz ["self", "program", "held"]:=by
   dsimp only [L2.KOf]
   refine' Mi.zby KX G ?aC ?mk ?kc ?a ?i ?l ?c ?k ?b
   case aC|mk|kc|a|i|l|c|k=>k_is
   (case b=>exact λ_ _ _ _ _ _ us hl=>match us,hl with|[_,_,_],_=>rfl)
  have m_Holding_makes_later:Mi.MtF (L2.KOf KX) mg "Holding" "makes_later" "Holding.makes_later" FK62.zfA ["self", "name", "step", "later"]:=by
   dsimp only [L2.KOf]
   refine' Mi.wE KX G ?aC ?pg ?hd ?po ?sa ?a ?i ?l ?c ?k ?b
   case aC|pg|hd|po|sa|a|i|l|c|k=>k_is
   (case b=>exact λ_ _ _ _ _ _ us hl=>match us,hl with|[_,_,_,_],_=>rfl)
  have m_Holding_best_form:Mi.MtF (L2.KOf KX) mg "Holding" "best_form" "Holding.best_form" FK62.zfB ["self", "function", "bits"]:=by
   dsimp only [L2.KOf]
   refine' Mi.wE KX G ?aC ?pg ?hd ?po ?sa ?a ?i ?l ?c ?k ?b
   case aC|pg|hd|po|sa|a|i|l|c|k=>k_is
   (case b=>exact λ_ _ _ _ _ _ us hl=>match us,hl with|[_,_,_],_=>rfl)
  have x_Fault:Mi.XnF (L2.KOf KX) mg "Fault" "word" "Fault.__init__" FK62.zjk:=by
   dsimp only [L2.KOf]
   refine' Mi.zp1 KX G ?aC ?hC ?hB ?hN ?he ?hi ?fn ?kp ?sa ?hcl ?hl ?no ?hd ?l ?c ?k ?b
   case aC|hC=>k_is
   (case hB=>k_exc)
   (case hN=>k_is)
   (case he=>first|rfl|with_unfolding_all rfl|simp)
   (case hi=>k_is)
   (case fn=>k_is)
   (case kp=>k_is)
   (case sa=>k_is)
   (case hcl=>k_is)
   (case hl=>rfl)
   (case no=>k_is)
   (case hd=>k_is)
   (case l=>k_is)
   (case c=>k_is)
   (case k=>k_is)
   (case b=>exact λ_ _ _ _ _ _ us hl=>match us,hl with|[_,_],_=>rfl)
  have c_MOST_PARTS:∃t,mg "MOST_PARTS" = some (.int 60 t):=by
   refine' Mi.zh1 KX G ?a
   (case a=>k_is)
  have c_NUMBER_BOUND:∃t,mg "NUMBER_BOUND" = some (.int 1000000000000000000 t):=by
   refine' Mi.zh1 KX G ?a
   (case a=>k_is)
  have d_bits_by_name:Mi.FldF (L2.KOf KX) mg "bits_by_name" FK62.insOf FK62.excOf:=by
   refine ⟨λc hc=>?_,λc hc=>?_⟩
   ·simp [FK62.insOf,or_assoc] at hc
    rcases hc with rfl|rfl|rfl|rfl|rfl|rfl
    ·dsimp only [L2.KOf]
     refine' Mi.zN KX G ?aC ?pg ?hd ?po ?sa ?na
     case aC|pg|hd|po|sa|na=>k_is
    ·dsimp only [L2.KOf]
     refine' Mi.zN KX G ?aC ?pg ?hd ?po ?sa ?na
     case aC|pg|hd|po|sa|na=>k_is
    ·dsimp only [L2.KOf]
     refine' Mi.zN KX G ?aC ?pg ?hd ?po ?sa ?na
     case aC|pg|hd|po|sa|na=>k_is
    ·dsimp only [L2.KOf]
     refine' Mi.zN KX G ?aC ?pg ?hd ?po ?sa ?na
     case aC|pg|hd|po|sa|na=>k_is
    ·dsimp only [L2.KOf]
     refine' Mi.zN KX G ?aC ?pg ?hd ?po ?sa ?na
     case aC|pg|hd|po|sa|na=>k_is
    ·dsimp only [L2.KOf]
     refine' Mi.zN KX G ?aC ?pg ?hd ?po ?sa ?na
     case aC|pg|hd|po|sa|na=>k_is
   ·simp [FK62.excOf,or_assoc] at hc
    rcases hc with rfl
    ·dsimp only [L2.KOf]
     refine' Mi.wc KX G ?aC ?ga ?hk ?hB ?hd ?no
     case aC|ga|hk|hB|hd|no=>k_is
  have d_goals:Mi.FldF (L2.KOf KX) mg "goals" FK62.insOf FK62.excOf:=by
   refine ⟨λc hc=>?_,λc hc=>?_⟩
   ·simp [FK62.insOf,or_assoc] at hc
    rcases hc with rfl|rfl|rfl|rfl|rfl|rfl
    ·dsimp only [L2.KOf]
     refine' Mi.zN KX G ?aC ?pg ?hd ?po ?sa ?na
     case aC|pg|hd|po|sa|na=>k_is
    ·dsimp only [L2.KOf]
     refine' Mi.zN KX G ?aC ?pg ?hd ?po ?sa ?na
     case aC|pg|hd|po|sa|na=>k_is
    ·dsimp only [L2.KOf]
     refine' Mi.zN KX G ?aC ?pg ?hd ?po ?sa ?na
     case aC|pg|hd|po|sa|na=>k_is
    ·dsimp only [L2.KOf]
     refine' Mi.zN KX G ?aC ?pg ?hd ?po ?sa ?na
     case aC|pg|hd|po|sa|na=>k_is
    ·dsimp only [L2.KOf]
     refine' Mi.zN KX G ?aC ?pg ?hd ?po ?sa ?na
     case aC|pg|hd|po|sa|na=>k_is
    ·dsimp only [L2.KOf]
     refine' Mi.zN KX G ?aC ?pg ?hd ?po ?sa ?na
     case aC|pg|hd|po|sa|na=>k_is
   ·simp [FK62.excOf,or_assoc] at hc
    rcases hc with rfl
    ·dsimp only [L2.KOf]
     refine' Mi.wc KX G ?aC ?ga ?hk ?hB ?hd ?no
     case aC|ga|hk|hB|hd|no=>k_is
  have d_later:Mi.FldF (L2.KOf KX) mg "later" FK62.insOf FK62.excOf:=by
   refine ⟨λc hc=>?_,λc hc=>?_⟩
   ·simp [FK62.insOf,or_assoc] at hc
    rcases hc with rfl|rfl|rfl|rfl|rfl|rfl
    ·dsimp only [L2.KOf]
     refine' Mi.zN KX G ?aC ?pg ?hd ?po ?sa ?na
     case aC|pg|hd|po|sa|na=>k_is
    ·dsimp only [L2.KOf]
     refine' Mi.zN KX G ?aC ?pg ?hd ?po ?sa ?na
     case aC|pg|hd|po|sa|na=>k_is
    ·dsimp only [L2.KOf]
     refine' Mi.zN KX G ?aC ?pg ?hd ?po ?sa ?na
     case aC|pg|hd|po|sa|na=>k_is
    ·dsimp only [L2.KOf]
     refine' Mi.zN KX G ?aC ?pg ?hd ?po ?sa ?na
     case aC|pg|hd|po|sa|na=>k_is
    ·dsimp only [L2.KOf]
     refine' Mi.zN KX G ?aC ?pg ?hd ?po ?sa ?na
     case aC|pg|hd|po|sa|na=>k_is
    ·dsimp only [L2.KOf]
     refine' Mi.zN KX G ?aC ?pg ?hd ?po ?sa ?na
     case aC|pg|hd|po|sa|na=>k_is
   ·simp [FK62.excOf,or_assoc] at hc
    rcases hc with rfl
    ·dsimp only [L2.KOf]
     refine' Mi.wc KX G ?aC ?ga ?hk ?hB ?hd ?no
     case aC|ga|hk|hB|hd|no=>k_is
  have d_limit:Mi.FldF (L2.KOf KX) mg "limit" FK62.insOf FK62.excOf:=by
   refine ⟨λc hc=>?_,λc hc=>?_⟩
   ·simp [FK62.insOf,or_assoc] at hc
    rcases hc with rfl|rfl|rfl|rfl|rfl|rfl
    ·dsimp only [L2.KOf]
     refine' Mi.zN KX G ?aC ?pg ?hd ?po ?sa ?na
     case aC|pg|hd|po|sa|na=>k_is
    ·dsimp only [L2.KOf]
     refine' Mi.zN KX G ?aC ?pg ?hd ?po ?sa ?na
     case aC|pg|hd|po|sa|na=>k_is
    ·dsimp only [L2.KOf]
     refine' Mi.zN KX G ?aC ?pg ?hd ?po ?sa ?na
     case aC|pg|hd|po|sa|na=>k_is
    ·dsimp only [L2.KOf]
     refine' Mi.zN KX G ?aC ?pg ?hd ?po ?sa ?na
     case aC|pg|hd|po|sa|na=>k_is
    ·dsimp only [L2.KOf]
     refine' Mi.zN KX G ?aC ?pg ?hd ?po ?sa ?na
     case aC|pg|hd|po|sa|na=>k_is
    ·dsimp only [L2.KOf]
     refine' Mi.zN KX G ?aC ?pg ?hd ?po ?sa ?na
     case aC|pg|hd|po|sa|na=>k_is
   ·simp [FK62.excOf,or_assoc] at hc
    rcases hc with rfl
    ·dsimp only [L2.KOf]
     refine' Mi.wc KX G ?aC ?ga ?hk ?hB ?hd ?no
     case aC|ga|hk|hB|hd|no=>k_is
  have d_many:Mi.FldF (L2.KOf KX) mg "many" FK62.insOf FK62.excOf:=by
   refine ⟨λc hc=>?_,λc hc=>?_⟩
   ·simp [FK62.insOf,or_assoc] at hc
    rcases hc with rfl|rfl|rfl|rfl|rfl|rfl
    ·dsimp only [L2.KOf]
     refine' Mi.zN KX G ?aC ?pg ?hd ?po ?sa ?na
     case aC|pg|hd|po|sa|na=>k_is
    ·dsimp only [L2.KOf]
     refine' Mi.zN KX G ?aC ?pg ?hd ?po ?sa ?na
     case aC|pg|hd|po|sa|na=>k_is
    ·dsimp only [L2.KOf]
     refine' Mi.zN KX G ?aC ?pg ?hd ?po ?sa ?na
     case aC|pg|hd|po|sa|na=>k_is
    ·dsimp only [L2.KOf]
     refine' Mi.zN KX G ?aC ?pg ?hd ?po ?sa ?na
     case aC|pg|hd|po|sa|na=>k_is
    ·dsimp only [L2.KOf]
     refine' Mi.zN KX G ?aC ?pg ?hd ?po ?sa ?na
     case aC|pg|hd|po|sa|na=>k_is
    ·dsimp only [L2.KOf]
     refine' Mi.zN KX G ?aC ?pg ?hd ?po ?sa ?na
     case aC|pg|hd|po|sa|na=>k_is
   ·simp [FK62.excOf,or_assoc] at hc
    rcases hc with rfl
    ·dsimp only [L2.KOf]
     refine' Mi.wc KX G ?aC ?ga ?hk ?hB ?hd ?no
     case aC|ga|hk|hB|hd|no=>k_is
  have d_met:Mi.FldF (L2.KOf KX) mg "met" FK62.insOf FK62.excOf:=by
   refine ⟨λc hc=>?_,λc hc=>?_⟩
   ·simp [FK62.insOf,or_assoc] at hc
    rcases hc with rfl|rfl|rfl|rfl|rfl|rfl
    ·dsimp only [L2.KOf]
     refine' Mi.zN KX G ?aC ?pg ?hd ?po ?sa ?na
     case aC|pg|hd|po|sa|na=>k_is
    ·dsimp only [L2.KOf]
     refine' Mi.zN KX G ?aC ?pg ?hd ?po ?sa ?na
     case aC|pg|hd|po|sa|na=>k_is
    ·dsimp only [L2.KOf]
     refine' Mi.zN KX G ?aC ?pg ?hd ?po ?sa ?na
     case aC|pg|hd|po|sa|na=>k_is
    ·dsimp only [L2.KOf]
     refine' Mi.zN KX G ?aC ?pg ?hd ?po ?sa ?na
     case aC|pg|hd|po|sa|na=>k_is
    ·dsimp only [L2.KOf]
     refine' Mi.zN KX G ?aC ?pg ?hd ?po ?sa ?na
     case aC|pg|hd|po|sa|na=>k_is
    ·dsimp only [L2.KOf]
     refine' Mi.zN KX G ?aC ?pg ?hd ?po ?sa ?na
     case aC|pg|hd|po|sa|na=>k_is
   ·simp [FK62.excOf,or_assoc] at hc
    rcases hc with rfl
    ·dsimp only [L2.KOf]
     refine' Mi.wc KX G ?aC ?ga ?hk ?hB ?hd ?no
     case aC|ga|hk|hB|hd|no=>k_is
  have d_name:Mi.FldF (L2.KOf KX) mg "name" FK62.insOf FK62.excOf:=by
   refine ⟨λc hc=>?_,λc hc=>?_⟩
   ·simp [FK62.insOf,or_assoc] at hc
    rcases hc with rfl|rfl|rfl|rfl|rfl|rfl
    ·dsimp only [L2.KOf]
     refine' Mi.zN KX G ?aC ?pg ?hd ?po ?sa ?na
     case aC|pg|hd|po|sa|na=>k_is
    ·dsimp only [L2.KOf]
     refine' Mi.zN KX G ?aC ?pg ?hd ?po ?sa ?na
     case aC|pg|hd|po|sa|na=>k_is
    ·dsimp only [L2.KOf]
     refine' Mi.zN KX G ?aC ?pg ?hd ?po ?sa ?na
     case aC|pg|hd|po|sa|na=>k_is
    ·dsimp only [L2.KOf]
     refine' Mi.zN KX G ?aC ?pg ?hd ?po ?sa ?na
     case aC|pg|hd|po|sa|na=>k_is
    ·dsimp only [L2.KOf]
     refine' Mi.zN KX G ?aC ?pg ?hd ?po ?sa ?na
     case aC|pg|hd|po|sa|na=>k_is
    ·dsimp only [L2.KOf]
     refine' Mi.zN KX G ?aC ?pg ?hd ?po ?sa ?na
     case aC|pg|hd|po|sa|na=>k_is
   ·simp [FK62.excOf,or_assoc] at hc
    rcases hc with rfl
    ·dsimp only [L2.KOf]
     refine' Mi.wc KX G ?aC ?ga ?hk ?hB ?hd ?no
     case aC|ga|hk|hB|hd|no=>k_is
  have d_names:Mi.FldF (L2.KOf KX) mg "names" FK62.insOf FK62.excOf:=by
   refine ⟨λc hc=>?_,λc hc=>?_⟩
   ·simp [FK62.insOf,or_assoc] at hc
    rcases hc with rfl|rfl|rfl|rfl|rfl|rfl
    ·dsimp only [L2.KOf]
     refine' Mi.zN KX G ?aC ?pg ?hd ?po ?sa ?na
     case aC|pg|hd|po|sa|na=>k_is
    ·dsimp only [L2.KOf]
     refine' Mi.zN KX G ?aC ?pg ?hd ?po ?sa ?na
     case aC|pg|hd|po|sa|na=>k_is
    ·dsimp only [L2.KOf]
     refine' Mi.zN KX G ?aC ?pg ?hd ?po ?sa ?na
     case aC|pg|hd|po|sa|na=>k_is
    ·dsimp only [L2.KOf]
     refine' Mi.zN KX G ?aC ?pg ?hd ?po ?sa ?na
     case aC|pg|hd|po|sa|na=>k_is
    ·dsimp only [L2.KOf]
     refine' Mi.zN KX G ?aC ?pg ?hd ?po ?sa ?na
     case aC|pg|hd|po|sa|na=>k_is
    ·dsimp only [L2.KOf]
     refine' Mi.zN KX G ?aC ?pg ?hd ?po ?sa ?na
     case aC|pg|hd|po|sa|na=>k_is
   ·simp [FK62.excOf,or_assoc] at hc
    rcases hc with rfl
    ·dsimp only [L2.KOf]
     refine' Mi.wc KX G ?aC ?ga ?hk ?hB ?hd ?no
     case aC|ga|hk|hB|hd|no=>k_is
  have d_pairs:Mi.FldF (L2.KOf KX) mg "pairs" FK62.insOf FK62.excOf:=by
   refine ⟨λc hc=>?_,λc hc=>?_⟩
   ·simp [FK62.insOf,or_assoc] at hc
    rcases hc with rfl|rfl|rfl|rfl|rfl|rfl
    ·dsimp only [L2.KOf]
     refine' Mi.zN KX G ?aC ?pg ?hd ?po ?sa ?na
     case aC|pg|hd|po|sa|na=>k_is
    ·dsimp only [L2.KOf]
     refine' Mi.zN KX G ?aC ?pg ?hd ?po ?sa ?na
     case aC|pg|hd|po|sa|na=>k_is
    ·dsimp only [L2.KOf]
     refine' Mi.zN KX G ?aC ?pg ?hd ?po ?sa ?na
     case aC|pg|hd|po|sa|na=>k_is
    ·dsimp only [L2.KOf]
     refine' Mi.zN KX G ?aC ?pg ?hd ?po ?sa ?na
     case aC|pg|hd|po|sa|na=>k_is
    ·dsimp only [L2.KOf]
     refine' Mi.zN KX G ?aC ?pg ?hd ?po ?sa ?na
     case aC|pg|hd|po|sa|na=>k_is
    ·dsimp only [L2.KOf]
     refine' Mi.zN KX G ?aC ?pg ?hd ?po ?sa ?na
     case aC|pg|hd|po|sa|na=>k_is
   ·simp [FK62.excOf,or_assoc] at hc
    rcases hc with rfl
    ·dsimp only [L2.KOf]
     refine' Mi.wc KX G ?aC ?ga ?hk ?hB ?hd ?no
     case aC|ga|hk|hB|hd|no=>k_is
  have d_ring:Mi.FldF (L2.KOf KX) mg "ring" FK62.insOf FK62.excOf:=by
   refine ⟨λc hc=>?_,λc hc=>?_⟩
   ·simp [FK62.insOf,or_assoc] at hc
    rcases hc with rfl|rfl|rfl|rfl|rfl|rfl
    ·dsimp only [L2.KOf]
     refine' Mi.zN KX G ?aC ?pg ?hd ?po ?sa ?na
     case aC|pg|hd|po|sa|na=>k_is
    ·dsimp only [L2.KOf]
     refine' Mi.zN KX G ?aC ?pg ?hd ?po ?sa ?na
     case aC|pg|hd|po|sa|na=>k_is
    ·dsimp only [L2.KOf]
     refine' Mi.zN KX G ?aC ?pg ?hd ?po ?sa ?na
     case aC|pg|hd|po|sa|na=>k_is
    ·dsimp only [L2.KOf]
     refine' Mi.zN KX G ?aC ?pg ?hd ?po ?sa ?na
     case aC|pg|hd|po|sa|na=>k_is
    ·dsimp only [L2.KOf]
     refine' Mi.zN KX G ?aC ?pg ?hd ?po ?sa ?na
     case aC|pg|hd|po|sa|na=>k_is
    ·dsimp only [L2.KOf]
     refine' Mi.zN KX G ?aC ?pg ?hd ?po ?sa ?na
     case aC|pg|hd|po|sa|na=>k_is
   ·simp [FK62.excOf,or_assoc] at hc
    rcases hc with rfl
    ·dsimp only [L2.KOf]
     refine' Mi.wc KX G ?aC ?ga ?hk ?hB ?hd ?no
     case aC|ga|hk|hB|hd|no=>k_is
  have d_things:Mi.FldF (L2.KOf KX) mg "things" FK62.insOf FK62.excOf:=by
   refine ⟨λc hc=>?_,λc hc=>?_⟩
   ·simp [FK62.insOf,or_assoc] at hc
    rcases hc with rfl|rfl|rfl|rfl|rfl|rfl
    ·dsimp only [L2.KOf]
     refine' Mi.zN KX G ?aC ?pg ?hd ?po ?sa ?na
     case aC|pg|hd|po|sa|na=>k_is
    ·dsimp only [L2.KOf]
     refine' Mi.zN KX G ?aC ?pg ?hd ?po ?sa ?na
     case aC|pg|hd|po|sa|na=>k_is
    ·dsimp only [L2.KOf]
     refine' Mi.zN KX G ?aC ?pg ?hd ?po ?sa ?na
     case aC|pg|hd|po|sa|na=>k_is
    ·dsimp only [L2.KOf]
     refine' Mi.zN KX G ?aC ?pg ?hd ?po ?sa ?na
     case aC|pg|hd|po|sa|na=>k_is
    ·dsimp only [L2.KOf]
     refine' Mi.zN KX G ?aC ?pg ?hd ?po ?sa ?na
     case aC|pg|hd|po|sa|na=>k_is
    ·dsimp only [L2.KOf]
     refine' Mi.zN KX G ?aC ?pg ?hd ?po ?sa ?na
     case aC|pg|hd|po|sa|na=>k_is
   ·simp [FK62.excOf,or_assoc] at hc
    rcases hc with rfl
    ·dsimp only [L2.KOf]
     refine' Mi.wc KX G ?aC ?ga ?hk ?hB ?hd ?no
     case aC|ga|hk|hB|hd|no=>k_is
  have d_value:Mi.FldF (L2.KOf KX) mg "value" FK62.insOf FK62.excOf:=by
   refine ⟨λc hc=>?_,λc hc=>?_⟩
   ·simp [FK62.insOf,or_assoc] at hc
    rcases hc with rfl|rfl|rfl|rfl|rfl|rfl
    ·dsimp only [L2.KOf]
     refine' Mi.zN KX G ?aC ?pg ?hd ?po ?sa ?na
     case aC|pg|hd|po|sa|na=>k_is
    ·dsimp only [L2.KOf]
     refine' Mi.zN KX G ?aC ?pg ?hd ?po ?sa ?na
     case aC|pg|hd|po|sa|na=>k_is
    ·dsimp only [L2.KOf]
     refine' Mi.zN KX G ?aC ?pg ?hd ?po ?sa ?na
     case aC|pg|hd|po|sa|na=>k_is
    ·dsimp only [L2.KOf]
     refine' Mi.zN KX G ?aC ?pg ?hd ?po ?sa ?na
     case aC|pg|hd|po|sa|na=>k_is
    ·dsimp only [L2.KOf]
     refine' Mi.zN KX G ?aC ?pg ?hd ?po ?sa ?na
     case aC|pg|hd|po|sa|na=>k_is
    ·dsimp only [L2.KOf]
     refine' Mi.zN KX G ?aC ?pg ?hd ?po ?sa ?na
     case aC|pg|hd|po|sa|na=>k_is
   ·simp [FK62.excOf,or_assoc] at hc
    rcases hc with rfl
    ·dsimp only [L2.KOf]
     refine' Mi.wc KX G ?aC ?ga ?hk ?hB ?hd ?no
     case aC|ga|hk|hB|hd|no=>k_is
  have d_word:Mi.FldF (L2.KOf KX) mg "word" FK62.insOf FK62.excOf:=by
   refine ⟨λc hc=>?_,λc hc=>?_⟩
   ·simp [FK62.insOf,or_assoc] at hc
    rcases hc with rfl|rfl|rfl|rfl|rfl|rfl
    ·dsimp only [L2.KOf]
     refine' Mi.zN KX G ?aC ?pg ?hd ?po ?sa ?na
     case aC|pg|hd|po|sa|na=>k_is
    ·dsimp only [L2.KOf]
     refine' Mi.zN KX G ?aC ?pg ?hd ?po ?sa ?na
     case aC|pg|hd|po|sa|na=>k_is
    ·dsimp only [L2.KOf]
     refine' Mi.zN KX G ?aC ?pg ?hd ?po ?sa ?na
     case aC|pg|hd|po|sa|na=>k_is
    ·dsimp only [L2.KOf]
     refine' Mi.zN KX G ?aC ?pg ?hd ?po ?sa ?na
     case aC|pg|hd|po|sa|na=>k_is
    ·dsimp only [L2.KOf]
     refine' Mi.zN KX G ?aC ?pg ?hd ?po ?sa ?na
     case aC|pg|hd|po|sa|na=>k_is
    ·dsimp only [L2.KOf]
     refine' Mi.zN KX G ?aC ?pg ?hd ?po ?sa ?na
     case aC|pg|hd|po|sa|na=>k_is
   ·simp [FK62.excOf,or_assoc] at hc
    rcases hc with rfl
    ·dsimp only [L2.KOf]
     refine' Mi.wc KX G ?aC ?ga ?hk ?hB ?hd ?no
     case aC|ga|hk|hB|hd|no=>k_is
  have is:Mi.IsF (L2.KOf KX) mg FK62.isT:=by
   exact Mi.zqs rfl rfl rfl
  have kd_OPS:∀X:L2.Cx,X.K=(L2.KOf KX)->X.mg=mg->X.w=w->Mi.KdF X "OPS" FK62.jU FK62.jV FK62.zfE:=by
   dsimp only [L2.KOf]
   refine' Mi.zp3 KX G ?aO ?lO ?hk ?no ?hi
   case aO|lO=>k_is
   case hk =>
    repeat (refine ⟨⟨_,_,rfl,rfl⟩,?_⟩)
    exact trivial
   (case no=>first|rfl|decide)
   case hi =>
    simp only [FK62.jU,FK62.jV,List.zip_cons_cons,List.zip_nil_left]
    refine Mi.all_cons ?_ ?_
    ·refine' Mi.zdq KX G ?e ?l1 ?l2 ?a
     case e|l1|l2|a=>k_is
    refine Mi.all_cons ?_ ?_
    ·refine' Mi.zdq KX G ?e ?l1 ?l2 ?a
     case e|l1|l2|a=>k_is
    refine Mi.all_cons ?_ ?_
    ·refine' Mi.zdq KX G ?e ?l1 ?l2 ?a
     case e|l1|l2|a=>k_is
    refine Mi.all_cons ?_ ?_
    ·refine' Mi.zdq KX G ?e ?l1 ?l2 ?a
     case e|l1|l2|a=>k_is
    exact Mi.zp2
  have T:FK62.Txt w (L2.KOf KX) mg:=by
   constructor
   case n_KeyRing=>exact n_KeyRing
   case m_KeyRing_name_for=>exact m_KeyRing_name_for
   case n_Known=>exact n_Known
   case n_Later=>exact n_Later
   case n_Making=>exact n_Making
   case m_Making_things_at=>exact m_Making_things_at
   case m_Known_atom=>exact m_Known_atom
   case m_Later_atom=>exact m_Later_atom
   case m_Making_left_let=>exact m_Making_left_let
   case m_Op_answer=>exact m_Op_answer
   case n_Op=>exact n_Op
   case m_Making_answer_ahead=>exact m_Making_answer_ahead
   case m_Making_made_end=>exact m_Making_made_end
   case m_Making_made_block=>exact m_Making_made_block
   case n_Holding=>exact n_Holding
   case m_Holding_makes_later=>exact m_Holding_makes_later
   case m_Holding_best_form=>exact m_Holding_best_form
   case x_Fault=>exact x_Fault
   case c_MOST_PARTS=>exact c_MOST_PARTS
   case c_NUMBER_BOUND=>exact c_NUMBER_BOUND
   case d_bits_by_name=>exact d_bits_by_name
   case d_goals=>exact d_goals
   case d_later=>exact d_later
   case d_limit=>exact d_limit
   case d_many=>exact d_many
   case d_met=>exact d_met
   case d_name=>exact d_name
   case d_names=>exact d_names
   case d_pairs=>exact d_pairs
   case d_ring=>exact d_ring
   case d_things=>exact d_things
   case d_value=>exact d_value
   case d_word=>exact d_word
   case is=>exact is
   case kd_OPS=>exact kd_OPS
   all_goals first
    | (show Mi.FnF _ _ _ _ [_];dsimp only [L2.KOf];refine' Mi.zcf KX G ?a ?l ?c ?k ?b;(case a|l|c|k=>k_is);(case b=>exact λ_ _ _ _ _ _ us hl=>match us,hl with|[_],_=>rfl))
    | (show Mi.FnF _ _ _ _ [_,_];dsimp only [L2.KOf];refine' Mi.zcf KX G ?a ?l ?c ?k ?b;(case a|l|c|k=>k_is);(case b=>exact λ_ _ _ _ _ _ us hl=>match us,hl with|[_,_],_=>rfl))
    | (show Mi.FnF _ _ _ _ [_,_,_];dsimp only [L2.KOf];refine' Mi.zcf KX G ?a ?l ?c ?k ?b;(case a|l|c|k=>k_is);(case b=>exact λ_ _ _ _ _ _ us hl=>match us,hl with|[_,_,_],_=>rfl))
    | (show Mi.FnF _ _ _ _ [_,_,_,_];dsimp only [L2.KOf];refine' Mi.zcf KX G ?a ?l ?c ?k ?b;(case a|l|c|k=>k_is);(case b=>exact λ_ _ _ _ _ _ us hl=>match us,hl with|[_,_,_,_],_=>rfl))
    | (show Mi.FnF _ _ _ _ [_,_,_,_,_];dsimp only [L2.KOf];refine' Mi.zcf KX G ?a ?l ?c ?k ?b;(case a|l|c|k=>k_is);(case b=>exact λ_ _ _ _ _ _ us hl=>match us,hl with|[_,_,_,_,_],_=>rfl))
    | (refine' Mi.zp5 KX G ?a;case a=>k_is)
  exact Mi.zp4 T.f_law hmg (λ_ _ _ _ _ _ _=>rfl) (λf fd F base=>FK62.zvz T F) (λns _=>FK62.zxB ns))
