import PyProof.Rows.All
import Wide.All
import OpenK.AllK
import Wide.FinOn
import Lean
import PyProof.EqAt
import PyProof.EqKinds
import PyProof.TupleCall
import PySem.Challenge.RW_foreknown_k70_numbers_done
set_option Elab.async false
set_option linter.all false
set_option maxRecDepth 100000
abbrev Aa:=PySem.Value->PySem.Shared->Prop
abbrev Ab:=PySem.Str->Option PySem.Value
abbrev Ac:=List (PySem.Addr×PySem.Obj)
abbrev Ad:=List PySem.Str
abbrev Ae:=List PySem.Addr
abbrev Af:=List PySem.Value
def zl:=@PySem.wpAny_bind
def z9:=@PySem.Heap.get?_push_of_some
def zG:=@PySem.wpAny_pure
def yh:=@PySem.Heap.lt_size
def yB:=@PySem.Heap.get?_push_size
def yQ:=@PySem.wpAny_field
def jJ:=@PySem.wpAny_call_entry
def jN:=@PySem.wpAny_newObj_type
def jU:=@PySem.wpAny_holding
def yV:=@PySem.wpAny_mono
def jO:=@PySem.Heap.get?_update_other
def wC:=@PySem.wpAny_truthy_bool
def j1:=@PySem.lookup_relabel_local
def iU:=@PySem.wpAny_rule
def yu:=@List.getElem?_eq_getElem
def jd:=@List.getElem?_set_ne
def yr:=@List.getElem?_eq_some_iff
def yW:=@List.getElem?_set_self
def ya:=@Nat.le_refl
def yR:=@List.size_toArray
def y3:=@List.mem_cons_self
def jh:=@List.mem_cons_of_mem
def yX:=@List.mem_append_right
def ly:=@List.mem_append_left
def zA:=@if_pos
def zF:=@if_neg
def jr:=@List.getElem?_map
def yL:=@List.mem_cons
def jK:=@List.drop_eq_getElem_cons
def y8:=@Nat.le_trans
def iV:=@List.length_append
def wD:=@if_true
def jk:=@Nat.zero_le
def lC:=@List.mem_of_getElem?
def jV:=@List.length_map
def lD:=@List.map_append
def je:=@Nat.lt_of_lt_of_le
def wQ:=@or_false
def jB:=@List.map_cons
def yD:=@Nat.ne_of_lt
def js:=@Bool.and_eq_true
def wE:=@List.mem_map
def mK:=@List.mem_append
def wF:=@List.length_cons
def jC:=@List.nodup_cons
def g8:=@List.getElem?_append_left
def iW:=@List.getElem?_append_right
def jn:=@decide_eq_false
def wm:=@decide_eq_true
def g9:=@List.drop_of_length_le
def yE:=@List.lookup_cons
def rV:=@List.getElem?_eq_none
def iX:=@List.getElem?_eq_none_iff
def mL:=@List.mem_range
def iY:=@decide_eq_true_eq
def yw:=@Ne.symm
def jP:=@Nat.lt_succ_self
namespace L2
open PySem PySem.Spec PyProof.Rows
abbrev Key:=Sum Int Str
def dn:Key->Value->Bool
 | .inl k,v=>Value.isInt k v
 | .inr x,v=>Value.isStrOf x v
def v9 (w:World):Key->Int
 | .inl k=>hashInt k
 | .inr x=>hashStr w x
def wn:∀{k:Key}{v:Value},dn k v=true->(∃i t,k=Sum.inl i/\v=Value.int i t)\/(∃x t,k=Sum.inr x/\v=Value.str x t)
 | .inl i,v,h=>by
  obtain ⟨t,e⟩:=Value.isInt_shape (k:=i) (v:=v) h
  exact .inl ⟨i,t,rfl,e⟩
 | .inr x,v,h=>by
  obtain ⟨t,e⟩:=Value.isStrOf_shape (x:=x) (v:=v) h
  exact .inr ⟨x,t,rfl,e⟩
def Gf (i:Int) (t:Tok):dn (.inl i) (.int i t)=true:=by simp [dn,Value.isInt]
def Gg (x:Str) (t:Tok):dn (.inr x) (.str x t)=true:=by simp [dn,Value.isStrOf]
def Gh (a b:Int):decide ((Sum.inl a:Key)=Sum.inl b)=(a==b):=by
 by_cases e:a=b
 ·subst e;simp
 ·have h:¬(Sum.inl a:Key)=Sum.inl b:=λq=>e (Sum.inl.inj q)
  rw [jn h]
  exact (beq_eq_false_iff_ne.mpr e).symm
def Gi (a b:Str):decide ((Sum.inr a:Key)=Sum.inr b)=decide (a=b):=by
 by_cases e:a=b
 ·subst e;simp
 ·have h:¬(Sum.inr a:Key)=Sum.inr b:=λq=>e (Sum.inr.inj q)
  rw [jn h,jn e]
def Gj (a:Int) (b:Str):decide ((Sum.inl a:Key)=Sum.inr b)=false:=jn (λq=>nomatch q)
def Gk (a:Str) (b:Int):decide ((Sum.inr a:Key)=Sum.inl b)=false:=jn (λq=>nomatch q)
def a3 (prog:Program) (w:World):PySem.KeyKind prog w Key where
 is:=dn
 hash:=v9 w
 inj:=λv a b ha hb=>by
  rcases wn ha with ⟨i,t,rfl,rfl⟩|⟨x,t,rfl,rfl⟩
  ·rcases wn hb with ⟨j,u,rfl,e⟩|⟨y,u,rfl,e⟩
   ·injection e with e1 _;rw [e1]
   ·exact nomatch e
  ·rcases wn hb with ⟨j,u,rfl,e⟩|⟨y,u,rfl,e⟩
   ·exact nomatch e
   ·injection e with e1 _;rw [e1]
 byValue:=λk v h=>by
  rcases wn h with ⟨i,t,rfl,rfl⟩|⟨x,t,rfl,rfl⟩<;>rfl
 pyHash:=λhv h=>by
  rcases wn hv with ⟨i,t,rfl,rfl⟩|⟨x,t,rfl,rfl⟩
  ·exact wpAny_pyHash_int h
  ·exact wpAny_pyHash_str h
 eqBool:=λhu hv h=>by
  rcases wn hu with ⟨i,t,rfl,rfl⟩|⟨x,t,rfl,rfl⟩
  ·rcases wn hv with ⟨j,u,rfl,rfl⟩|⟨y,u,rfl,rfl⟩
   ·rw [Gh] at h;exact wpAny_eqBool_int h
   ·rw [Gj] at h;exact SeqAt.EqAt.int_str i t y u _ _ _ _ h
  ·rcases wn hv with ⟨j,u,rfl,rfl⟩|⟨y,u,rfl,rfl⟩
   ·rw [Gk] at h;exact SeqAt.EqAt.str_int x t j u _ _ _ _ h
   ·rw [Gi] at h;exact wpAny_eqBool_str h
 «strs» := λk x t v h=>by
  rcases wn h with ⟨i,u,rfl,e⟩|⟨y,u,rfl,e⟩
  ·exact nomatch e
  ·injection e with e1 _
   subst e1
   cases v<;>rfl
def Gm (prog:Program) (w:World) (i:Int) (t:Tok):(a3 prog w).is (.inl i) (.int i t)=true:=Gf i t
def Gn (prog:Program) (w:World) (x:Str) (t:Tok):(a3 prog w).is (.inr x) (.str x t)=true:=Gg x t
inductive V where
 | non|bl (b:Bool)|int (i:Int)|str (x:Str)|byt (b:Array UInt8)|flt (b:UInt64)|ref (a:Addr)|ty (n:String)
 deriving DecidableEq
def RelV:V->Value->Prop
 | .non,u=>u=Value.none
 | .bl b,u=>u=Value.bool b
 | .int i,u=>∃t,u=Value.int i t
 | .str x,u=>∃t,u=Value.str x t
 | .byt b,u=>∃t,u=Value.bytes b t
 | .flt b,u=>∃t,u=Value.float b t
 | .ref a,u=>u=Value.ref a
 | .ty n,u=>u=Value.type n
abbrev Vals:List V->List Value->Prop:=Paired RelV
def Vals.length {xs:List V}{us:Af}(r:Vals xs us):xs.length=us.length:=Paired.length r
def Vals.get:∀{xs:List V}{us:Af}{i:Nat}{x:V},Vals xs us->xs[i]?=some x->∃u,us[i]?=some u/\RelV x u
 | _,_,_,_,.nil,e=>by simp at e
 | _,_,0,_,.cons r _,e=>by simp at e;subst e;exact ⟨_,rfl,r⟩
 | _,_,i+1,x,.cons _ t,e=>by
  obtain ⟨u,h1,h2⟩:=Vals.get (i:=i) (x:=x) t (by simpa using e)
  exact ⟨u,by simpa using h1,h2⟩
def Vals.append:∀{xs ys:List V}{us ws:Af},Vals xs us->Vals ys ws->Vals (xs++ys) (us++ws)
 | _,_,_,_,.nil,s=>s
 | _,_,_,_,.cons r t,s=>.cons r (Vals.append t s)
def Vals.take:∀{xs:List V}{us:Af}(n:Nat),Vals xs us->Vals (xs.take n) (us.take n)
 | _,_,0,_=>.nil
 | _,_,_+1,.nil=>.nil
 | _,_,n+1,.cons r t=>.cons r (Vals.take n t)
def Vals.drop:∀{xs:List V}{us:Af}(n:Nat),Vals xs us->Vals (xs.drop n) (us.drop n)
 | _,_,0,r=>r
 | _,_,_+1,.nil=>.nil
 | _,_,n+1,.cons _ t=>Vals.drop n t
def bF:Option V->Option Value->Prop
 | some v,some u=>RelV v u
 | none,none=>True
 | _,_=>False
def KV {κ:Type}:List (κ×V)->List (κ×Value)->Prop:=Paired λ(p:κ×V) (q:κ×Value)=>p.1=q.1/\RelV p.2 q.2
def kV:Key->V
 | .inl i=>.int i
 | .inr x=>.str x
inductive HO where
 | lst (xs:List V)
 | tup (xs:List V)
 | dK (kvs:List (Key×V))|dT (kvs:List (List Key×V))
 | set (S:Int->Bool) (n:Nat)
 | ins (C dx:Addr) (fs:List (Str×V))
 | own (x:Addr)
 | xd (fs:List (Str×V))
 | met (f x:Addr)
 | rng (lo hi:Int)
 | frz (o:Obj) (u:HO)
 | tbl (ps:Array Value)
 | ext (φ:Program->World->Heap->Prop)
abbrev Hp:=Addr->Option HO
def upd (H:Hp) (a:Addr) (o:HO):Hp:=λb=>if b=a then some o else H b
def yC {H:Hp}{a:Addr}{o:HO}:upd H a o a=some o:=by unfold upd;rw [zA rfl]
def zM {H:Hp}{a b:Addr}{o:HO}(h:b≠a):upd H a o b=H b:=by unfold upd;rw [zF h]
def Gp {H:Hp}{a:Addr}{o u:HO}:upd (upd H a o) a u=upd H a u:=by
 funext b;unfold upd;split<;>rfl
def Gq {H:Hp}{a b:Addr}{o u:HO}(h:H a=some o) (h':H b=some u) (d:o≠u):a≠b:=by
 intro e;subst e;rw [h] at h';exact d (Option.some.inj h')
def wG {H:Hp}{a b:Addr}{o:HO}(h:H a=some o) (h':H b=none):a≠b:=by
 intro e;subst e;rw [h] at h';cases h'
section
variable (P:Program) (w:World)
def aZ (H:Hp) (h:Heap) (a:Addr):HO->Prop
 | .lst xs=>xs.length<=sizeLine/\∃(its:Af) (n:Nat),Vals xs its/\h.get? a=some { cls:=.type "list", data:=.seq its.toArray n }
 | .tup xs=>xs.length<=sizeLine/\∃its:Af,Vals xs its/\IsTup h a its.toArray
 | .dK kvs=>kvs.length<=sizeLine/\(a==sysModules)=false/\∃vs,KV kvs vs/\h.DictOf (a3 P w) a vs
 | .dT kvs=>kvs.length<=sizeLine/\(a==sysModules)=false/\∃xs:List (List Key×Addr×Value),
   Paired (λ(p:List Key×V) (q:List Key×Addr×Value)=>p.1=q.1/\H q.2.1=some (.tup (p.1.map kV))/\RelV p.2 q.2.2) kvs xs /\
   ∃o es ep,h.get? a=some o/\o.ExactDict/\o.data=.dict es ep/\es.toList=xs.map (entryOfKey (tupleKind (a3 P w)))/\(xs.map (·.1)).Nodup
 | .set S n=>h.SetOf (intKind P w) a S n
 | .ins C dx fs=>H dx=some (.own a)/\fs.length<=1000/\dx≠a/\h.get? a=some (PySem.W.instObj C dx) /\
   ∃mA,h.Ns1 dx mA/\(∀f,bF (fs.lookup f) (mA f))/\PySem.Within mA (fs.map (·.1))
 | .own _=>∃o,h.get? a=some o
 | .xd fs=>∃mA,h.Ns1 a mA/\∀f,bF (fs.lookup f) (mA f)
 | .rng lo hi=>∃t u v,h.get? a=some { cls:=.type "range", data:=.fields #[.int lo t,.int hi u,.int 1 v] }
 | .frz o u=>h.get? a=some o/\aZ H h a u
 | .tbl ps=>h.get? a=some { cls:=.none,data:=.fields ps }
 | .met f x=>h.get? a=some (PySem.W.methodObj (.ref f) (.ref x))
 | .ext φ=>φ P w h/\(∃o,h.get? a=some o)/\∀h1 h2:Heap,φ P w h1->(∀o,h1.get? a=some o->h2.get? a=some o)->φ P w h2
def bH (H:Hp) (h:Heap):Prop:=∀a o,H a=some o->aZ P w H h a o
end
section
variable {P:Program}{w:World}{H H':Hp}{h h':Heap}{a:Addr}{o:HO}
def aZ.lt (x:aZ P w H h a o):a<h.objs.size:=by
 cases o with
 | lst xs=>obtain ⟨_,_,_,_,e⟩:=x;exact yh e
 | tup xs=>obtain ⟨_,_,_,p⟩:=x;exact p.lt
 | dK kvs=>obtain ⟨_,_,_,_,o,_,_,e,_⟩:=x;exact yh e
 | dT kvs=>obtain ⟨_,_,_,_,o,_,_,e,_⟩:=x;exact yh e
 | set S n=>obtain ⟨o,_,_,_,e,_⟩:=x;exact yh e
 | ins C dx fs=>obtain ⟨_,_,_,e,_⟩:=x;exact yh e
 | own y=>obtain ⟨_,e⟩:=x;exact yh e
 | xd fs=>obtain ⟨_,⟨_,_,_,e,_⟩,_⟩:=x;exact yh e
 | rng lo hi=>obtain ⟨_,_,_,e⟩:=x;exact yh e
 | frz ob u=>obtain ⟨e,_⟩:=x;exact yh e
 | tbl ps=>exact yh (show h.get? a=some _ from x)
 | met f y=>exact yh (show h.get? a=some _ from x)
 | ext φ=>obtain ⟨_,⟨_,e⟩,_⟩:=x;exact yh e
def Paired.mapP {α β:Type}{F G:α->β->Prop}:∀{aI:List α}{aJ:List β},Paired F aI aJ->(∀a b,F a b->G a b)->Paired G aI aJ
 | _,_,.nil,_=>.nil
 | _,_,.cons r t,f=>.cons (f _ _ r) (Paired.mapP t f)
def aZ.stay (x:aZ P w H h a o) (k:∀b u,(b=a\/H b=some (.own a))->h.get? b=some u->h'.get? b=some u)
  (ho:∀b,H b=some (.own a)->H' b=some (.own a)) (ht:∀b xs,H b=some (.tup xs)->H' b=some (.tup xs)):aZ P w H' h' a o:=by
 induction o with
 | lst xs=>obtain ⟨z,its,n,r,e⟩:=x;exact ⟨z,its,n,r,k _ _ (.inl rfl) e⟩
 | tup xs=>obtain ⟨z,its,r,ob,e,c⟩:=x;exact ⟨z,its,r,ob,k _ _ (.inl rfl) e,c⟩
 | dK kvs=>obtain ⟨z,y,vs,r,ob,es,ep,e,c⟩:=x;exact ⟨z,y,vs,r,ob,es,ep,k _ _ (.inl rfl) e,c⟩
 | dT kvs =>
  obtain ⟨z,y,xs,r,ob,es,ep,e,c⟩:=x
  exact ⟨z,y,xs,Paired.mapP r λp q z=>⟨z.1,ht _ _ z.2.1,z.2.2⟩,ob,es,ep,k _ _ (.inl rfl) e,c⟩
 | set S n=>obtain ⟨ob,es,ep,t,e,c⟩:=x;exact ⟨ob,es,ep,t,k _ _ (.inl rfl) e,c⟩
 | ins C dx fs =>
  obtain ⟨d,z,ne,e,mA,⟨od,es,ep,e2,c⟩,r⟩:=x
  exact ⟨ho _ d,z,ne,k _ _ (.inl rfl) e,mA,⟨od,es,ep,k _ _ (.inr d) e2,c⟩,r⟩
 | own y=>obtain ⟨ob,e⟩:=x;exact ⟨ob,k _ _ (.inl rfl) e⟩
 | xd fs=>obtain ⟨mA,⟨od,es,ep,e,c⟩,r⟩:=x;exact ⟨mA,⟨od,es,ep,k _ _ (.inl rfl) e,c⟩,r⟩
 | rng lo hi=>obtain ⟨t,u,v,e⟩:=x;exact ⟨t,u,v,k _ _ (.inl rfl) e⟩
 | frz ob u ih=>obtain ⟨e,q⟩:=x;exact ⟨k _ _ (.inl rfl) e,ih q⟩
 | tbl ps =>
  have e:h.get? a=some { cls:=.none,data:=.fields ps }:=x
  show h'.get? a=some { cls:=.none,data:=.fields ps }
  exact k a _ (.inl rfl) e
 | met f y =>
  have e:h.get? a=some (PySem.W.methodObj (.ref f) (.ref y)):=x
  show h'.get? a=some (PySem.W.methodObj (.ref f) (.ref y))
  exact k a _ (.inl rfl) e
 | ext φ=>obtain ⟨p,⟨o,e⟩,st⟩:=x;exact ⟨st _ _ p λo q=>k _ _ (.inl rfl) q,⟨o,k _ _ (.inl rfl) e⟩,st⟩
def bH.lt (x:bH P w H h) (e:H a=some o):a<h.objs.size:=(x a o e).lt
def bH.fresh (x:bH P w H h) (e:h.objs.size<=a):H a=none:=by
 cases q:H a with
 | none=>rfl
 | some u=>exact absurd (je (x.lt q) e) (Nat.lt_irrefl _)
def bH.kept (x:bH P w H h) (k:∀b u,h.get? b=some u->h'.get? b=some u):bH P w H h':=λa o e =>
 (x a o e).stay (λb u _ q=>k b u q) (λ_ q=>q) λ_ _ q=>q
def bH.laid (x:bH P w H h) (k:∀b u,h.get? b=some u->h'.get? b=some u) (hp:h.objs.size<=a) (new:aZ P w (upd H a o) h' a o):bH P w (upd H a o) h':=λb u e=>by
 have hn:=x.fresh hp
 by_cases hb:b=a
 ·subst hb;rw [yC] at e;cases e;exact new
 ·rw [zM hb] at e
  exact (x b u e).stay (λc v _ q=>k c v q) (λc q=>by rw [zM (wG q hn)];exact q) λc xs q=>by rw [zM (wG q hn)];exact q
end
def Rd (H:Hp) (a:Addr) (u:HO):Prop:=H a=some u\/∃o,H a=some (.frz o u)
def Rd.ok {P:Program}{w:World}{H:Hp}{h:Heap}{a:Addr}{u:HO}(r:Rd H a u) (x:bH P w H h):aZ P w H h a u:=by
 rcases r with r|⟨o,r⟩
 ·exact x a u r
 ·obtain ⟨_,q⟩:=x a _ r
  exact q
def lE:Option HO->Prop
 | some (.lst _)=>True
 | some (.dK _)=>True
 | some (.dT _)=>True
 | some (.set _ _)=>True
 | some (.ins _ _ _)=>True
 | some (.ext _)=>True
 | _=>False
section
variable {P:Program}{w:World}{H:Hp}{h h':Heap}{x e:Addr}{o':HO}
def bH.write (ok:bH P w H h) (mu:lE (H x)) (he:e=x\/H e=some (.own x)) (k:∀b u,b≠e->h.get? b=some u->h'.get? b=some u) (lG:∃u,h'.get? e=some u)
  (new:aZ P w (upd H x o') h' x o'):bH P w (upd H x o') h':=λb u q=>by
 have rG:∀c y,H c=some (.own y)->c≠x:=λc y r z=>by subst z;rw [r] at mu;exact mu
 have v_:∀c xs,H c=some (.tup xs)->c≠x:=λc xs r z=>by subst z;rw [r] at mu;exact mu
 by_cases hb:b=x
 ·subst hb;rw [yC] at q;cases q;exact new
 ·rw [zM hb] at q
  by_cases hbe:b=e
  ·have q':H b=some (.own x):=by
    rcases he with z|z
    ·exact absurd (hbe.trans z) hb
    ·rw [hbe];exact z
   rw [q] at q';cases q'
   obtain ⟨v,hv⟩:=lG
   exact ⟨v,by rw [hbe];exact hv⟩
  ·refine (ok b u q).stay (λc v hc r=>k c v ?_ r) (λc r=>by rw [zM (rG c b r)];exact r) λc xs r=>by rw [zM (v_ c xs r)];exact r
   rcases hc with rfl|hc
   ·exact hbe
   ·rintro rfl
    rcases he with z|z
    ·exact rG c b hc z
    ·rw [hc] at z;cases z;exact hb rfl
end
structure Un (fs ex:Ae) (H H':Hp) (h h':Heap):Prop where
 keep:∀b o,h.get? b=some o->H b=none->b∉fs->b∉ex->h'.get? b=some o
 slot:∀b o,h.get? b=some o->H b=none->b∈fs->b∉ex->∃sl,h'.get? b=some { o with slots:=sl }
 free:∀b o,h.get? b=some o->H b=none->b∉ex->H' b=none
 there:∀b o,h.get? b=some o->b∉ex->∃o',h'.get? b=some o'
 tups:∀b xs,H b=some (.tup xs)->H' b=some (.tup xs)
 frzs:∀b o u,H b=some (.frz o u)->H' b=some (.frz o u)
 tbls:∀b ps,H b=some (.tbl ps)->∃more,H' b=some (.tbl (ps++more))
section
variable {fs Gr ex VA:Ae}{H H1 H2:Hp}{h h1 h2 h':Heap}{a x e:Addr}{o:HO}
def Un.any (u:Un fs ex H H1 h h1) {b:Addr}{ob:Obj}(q:h.get? b=some ob) (n:H b=none) (hx:b∉ex):∃sl,h1.get? b=some { ob with slots:=sl }:=by
 by_cases hb:b∈fs
 ·exact u.slot b ob q n hb hx
 ·exact ⟨ob.slots,u.keep b ob q n hb hx⟩
def Un.trans (a:Un fs ex H H1 h h1) (b:Un fs ex H1 H2 h1 h2):Un fs ex H H2 h h2 where
 keep:=λc ob q n hc hx=>b.keep c ob (a.keep c ob q n hc hx) (a.free c ob q n hx) hc hx
 slot:=λc ob q n hc hx=>by
  obtain ⟨sl,e1⟩:=a.slot c ob q n hc hx
  obtain ⟨pf,e2⟩:=b.slot c _ e1 (a.free c ob q n hx) hc hx
  exact ⟨pf,e2⟩
 free:=λc ob q n hx=>by
  obtain ⟨o',e1⟩:=a.there c ob q hx
  exact b.free c o' e1 (a.free c ob q n hx) hx
 there:=λc ob q hx=>by
  obtain ⟨o',e1⟩:=a.there c ob q hx
  exact b.there c o' e1 hx
 tups:=λc xs q=>b.tups c xs (a.tups c xs q)
 frzs:=λc ob xs q=>b.frzs c ob xs (a.frzs c ob xs q)
 tbls:=λc ps q=>by
  obtain ⟨m1,e1⟩:=a.tbls c ps q
  obtain ⟨m2,e2⟩:=b.tbls c _ e1
  exact ⟨m1++m2,by rw [e2,Array.append_assoc]⟩
def Un.kept (k:∀b u,h.get? b=some u->h'.get? b=some u):Un fs ex H H h h' :=
 ⟨λb ob q _ _ _=>k b ob q,λb ob q _ _ _=>⟨ob.slots,k b ob q⟩,λ_ _ _ n _=>n,λb ob q _=>⟨ob,k b ob q⟩,λ_ _ q=>q,λ_ _ _ q=>q,λ_ ps q=>⟨#[],by rw [q];simp⟩⟩
def Un.refl:Un fs ex H H h h:=Un.kept λ_ _ q=>q
def Un.laid (k:∀b u,h.get? b=some u->h'.get? b=some u) (hp:h.objs.size<=a) (hn:H a=none):Un fs ex H (upd H a o) h h' where
 keep:=λb u q _ _ _=>k b u q
 slot:=λb u q _ _ _=>⟨u.slots,k b u q⟩
 free:=λb u q n _=>by rw [zM (yD (je (yh q) hp))];exact n
 there:=λb u q _=>⟨u,k b u q⟩
 tups:=λb xs q=>by rw [zM (wG q hn)];exact q
 frzs:=λb u xs q=>by rw [zM (wG q hn)];exact q
 tbls:=λb ps q=>⟨#[],by rw [zM (wG q hn),q];simp⟩
def Un.write (mu:lE (H x)) (he:e=x\/H e=some (.own x)) (k:∀b u,b≠e->h.get? b=some u->h'.get? b=some u) (lG:∃u,h'.get? e=some u):Un fs ex H (upd H x o) h h':=by
 have hx:∀b,H b=none->b≠x:=λb n z=>by subst z;rw [n] at mu;exact mu
 have hb:∀b,H b=none->b≠e:=λb n z=>by
  subst z
  rcases he with r|r
  ·exact hx b n r
  ·rw [n] at r;cases r
 have hm:∀b u,H b=some u->¬lE (some u)->b≠x:=λb u q nm z=>by subst z;rw [q] at mu;exact nm mu
 refine ⟨λb u q n _ _=>k b u (hb b n) q,λb u q n _ _=>⟨u.slots,k b u (hb b n) q⟩,λb u q n _=>by rw [zM (hx b n)];exact n,λb u q _=>?_,
  λb xs q=>by rw [zM (hm b _ q λz=>z)];exact q,λb u xs q=>by rw [zM (hm b _ q λz=>z)];exact q,λb ps q=>⟨#[],by rw [zM (hm b _ q λz=>z),q];simp⟩⟩
 by_cases hbe:b=e
 ·subst hbe;exact lG
 ·exact ⟨u,k b u hbe q⟩
end
def ph (h:Heap) (H:Hp):Ae:=(List.range h.objs.size).filter λa=>(H a).isSome
def d9 (h:Heap) (H:Hp):Heap:=PySem.W.hideAll h (ph h H)
def Gs (h:Heap) (H:Hp):(d9 h H).objs.size=h.objs.size:=PySem.W.hideAll_size _ _
def Gu {h:Heap}{H:Hp}{b:Addr}{o:Obj}(e:h.get? b=some o) (n:H b=none):(d9 h H).get? b=some o :=
 PySem.W.hideAll_get _ e λhm=>by
  have q:(H b).isSome=true:=(List.mem_filter.mp hm).2
  rw [n] at q;simp at q
def Gv {h:Heap}{H:Hp}{b:Addr}{o:Obj}(e:(d9 h H).get? b=some o):h.get? b=some o/\H b=none:=by
 have e':h.get? b=some o:=PySem.W.of_hideAll (ph h H) e
 refine ⟨e',?_⟩
 cases q:H b with
 | none=>rfl
 | some x =>
  have hm:b∈ph h H:=List.mem_filter.mpr ⟨mL.mpr (yh e'),by simp [q]⟩
  have z:(d9 h H).get? b=none:=PySem.W.hideAll_none (ph h H) hm
  rw [z] at e;cases e
def mM (g h:Heap) (L:Addr):Ac:=(List.range h.objs.size).filterMap λa=>if a=L\/(g.get? a).isSome=true then none else (h.get? a).map λo=>(a,o)
def rest (g h:Heap) (L d:Addr):Ac:=(mM g h L).filter λp=>decide (p.1≠d)
structure Mod (K:PySem.W.Frag) (mg:Ab) (base:Heap):Prop where
 kin:K.In base
 glob:base.Ns mainGlobals mg
 blt:∃mb,base.Ns builtinsNs mb/\∀x:Str,x ≠ "__name__" -> mb x=bootBuiltins x
 nolimit:base.NoLimit
structure Cx where
 prog:Program
 w:World
 K:PySem.W.Frag
 mg:Ab
 base:Heap
 A:Around
 N:Ad
 s₀:Shared
 H₀:Hp
 env:Env
 outer:List Env
 stack:List Env
 ex:Ae
 fn:Str->Bool
 calm:Bool
 pn:Ac
 xe:Aa
def cA (l:List Env):Ae:=l.filterMap (·.frame)
abbrev Cx.fs (X:Cx):Ae:=cA X.outer
def mO (sc:Scope) (x:Str):Prop:=sc.names.lookup x=some .local\/sc.names.lookup x=some .cell\/sc.names.lookup x=some .free
def Loc (sc:Scope) (x:Str):Prop:=sc.names.lookup x=some .local\/sc.names.lookup x=some .cell
def Look (env:Env) (h:Heap) (m:Ab) (x:Str) (u:Value):Prop :=
 (env.kindOf x=some .local/\m x=some u)\/((env.kindOf x=some .cell\/env.kindOf x=some .free)/\∃c,env.cells.lookup x=some c/\h.IsCell c (some u))
structure Cx.Ok (X:Cx):Prop where
 mod:Mod X.K X.mg X.base
 kind:X.env.scope.kind=.function
 glob:X.env.globals=mainGlobals
 blt:X.env.builtins=builtinsNs
 above:X.s₀.heap.objs.size<=X.env.locals
 inj:∀x y c,X.env.cells.lookup x=some c->X.env.cells.lookup y=some c->x=y
 has:∀x,(X.env.kindOf x=some .cell\/X.env.kindOf x=some .free)->∃c,X.env.cells.lookup x=some c
 cab:∀x c,X.fn x=true->X.env.cells.lookup x=some c->X.s₀.heap.objs.size<=c
 hd:X.calm=true->X.A.handled=none
 frames:X.A.frames=some X.stack
 stk:X.stack=X.outer\/(X.stack=X.env::X.outer/\X.env.frame=some X.env.locals)
 exf:∀b∈X.ex,b≠X.env.locals/\∀x c,X.env.cells.lookup x=some c->c≠b
 bs:∀b o,X.base.get? b=some o->X.s₀.heap.get? b=some o/\X.H₀ b=none
 bsz:X.base.objs.size<=X.s₀.heap.objs.size
 noex:∀b o,X.base.get? b=some o->b∉X.ex
 exfs:∀b∈X.ex,b∉X.fs
 funs:X.s₀.heap.FunFrames X.base X.outer
 frf:∀b∈X.fs,X.H₀ b=none
structure Inv (X:Cx) (pins:Ac) (σ:List (Option V)) (H:Hp) (s:Shared):Prop where
 ok:X.Ok
 os:s.os=X.s₀.os
 bare:AllBare s.gens
 base:Un X.fs X.ex X.H₀ H X.s₀.heap s.heap
 loc:∃m,s.heap.Ns X.env.locals m/\∀(i:Nat) (x:Str) (v:V),X.N[i]?=some x->σ[i]?=some (some v)->mO X.env.scope x->∃u,RelV v u/\Look X.env s.heap m x u
 cell:∀x c,X.env.cells.lookup x=some c->∃v,s.heap.IsCell c v
 free:H X.env.locals=none
 freeC:∀x c,X.env.cells.lookup x=some c->H c=none
 pin:∀p∈X.pn++pins,s.heap.get? p.1=some p.2/\H p.1=none/\p.1≠X.env.locals/\p.1∉X.fs/\∀v,p.2.data ≠ .cell v
 hok:bH X.prog X.w H s.heap
 len:σ.length=X.N.length
section
variable {X:Cx}{pins:Ac}{σ:List (Option V)}{H H':Hp}{s:Shared}{h':Heap}
def Cx.Ok.nofr (ok:X.Ok) {b:Addr}{o:Obj}(e:X.base.get? b=some o):b∉X.fs:=λhb=>by
 have:=(ok.funs.mem hb).1
 rw [e] at this;cases this
def Inv.bs (I:Inv X pins σ H s):∀b o,X.base.get? b=some o->s.heap.get? b=some o/\H b=none:=λb o e =>
 ⟨I.base.keep b o (I.ok.bs b o e).1 (I.ok.bs b o e).2 (I.ok.nofr e) (I.ok.noex b o e),I.base.free b o (I.ok.bs b o e).1 (I.ok.bs b o e).2 (I.ok.noex b o e)⟩
def Inv.bk (I:Inv X pins σ H s):∀b o,X.base.get? b=some o->s.heap.get? b=some o:=λb o e=>(I.bs b o e).1
def Inv.mod (I:Inv X pins σ H s):Mod X.K X.mg X.base:=I.ok.mod
def Inv.kIn (I:Inv X pins σ H s):X.K.In s.heap:=I.ok.mod.kin.keeps I.bk
def Inv.fr (I:Inv X pins σ H s):∃m,Fr X.base X.env.locals s.heap m :=
 let ⟨m,hn,_⟩:=I.loc
 ⟨m,hn,I.bk,y8 I.ok.bsz I.ok.above⟩
def Inv.lt (I:Inv X pins σ H s):X.env.locals<s.heap.objs.size:=let ⟨_,hn,_⟩:=I.loc;hn.lt
def Inv.sz (I:Inv X pins σ H s):X.s₀.heap.objs.size<=s.heap.objs.size:=y8 I.ok.above (Nat.le_of_lt I.lt)
def Inv.nofs (I:Inv X pins σ H s) {a:Addr}(h:s.heap.objs.size<=a):a∉X.fs:=λhb=>by
 obtain ⟨_,o,ho,_⟩:=I.ok.funs.mem hb
 exact absurd (je (yh ho) (y8 I.sz h)) (Nat.lt_irrefl _)
def Inv.cne (I:Inv X pins σ H s):∀x c,X.env.cells.lookup x=some c->c≠X.env.locals:=λx c e z=>by
 obtain ⟨v,o,ho,hd⟩:=I.cell x c e
 obtain ⟨m,⟨o',es,ep,ho',eO,_⟩,_⟩:=I.loc
 rw [z,ho'] at ho;cases ho;rw [eO] at hd;cases hd
def Inv.funs (I:Inv X pins σ H s):s.heap.FunFrames X.base X.outer:=by
 have all:∀(l:List Env),(∀b∈cA l,b∈X.fs)->X.s₀.heap.FunFrames X.base l->s.heap.FunFrames X.base l:=by
  intro l
  induction l with
  | nil=>intro _ _;trivial
  | cons env r ih =>
   intro hs hl
   obtain ⟨hk,⟨L,o,hf,hn,ho,hd⟩,hr⟩:=hl
   have hL:L∈X.fs:=hs L (by unfold cA;rw [List.filterMap_cons,hf];exact y3)
   obtain ⟨sl,e⟩:=I.base.slot L o ho (I.ok.frf L hL) hL λz=>I.ok.exfs L z hL
   exact ⟨hk,⟨L,_,hf,hn,e,hd⟩,ih (λb hb=>hs b (by unfold cA;rw [List.filterMap_cons,hf];exact jh _ hb)) hr⟩
 exact all X.outer (λ_ hb=>hb) I.ok.funs
def Inv.stack (I:Inv X pins σ H s):s.heap.FunFrames X.base X.stack:=by
 rcases I.ok.stk with e|⟨e,hf⟩
 ·rw [e];exact I.funs
 ·rw [e]
  obtain ⟨m,hn,_⟩:=I.loc
  refine .cons (by rw [I.ok.kind];decide) hf hn ?_ I.funs
  exact Heap.get?_none_of_le (y8 I.ok.bsz I.ok.above)
def Inv.stkSub (I:Inv X pins σ H s):∀b∈cA X.stack,b∈X.env.locals::X.fs:=λb hb=>by
 rcases I.ok.stk with e|⟨e,hf⟩
 ·rw [e] at hb;exact jh _ hb
 ·rw [e] at hb
  unfold cA at hb
  rw [List.filterMap_cons,hf] at hb
  exact hb
def Inv.stkFree (I:Inv X pins σ H s):∀b∈cA X.stack,H b=none:=λb hb=>by
 rcases yL.mp (I.stkSub b hb) with e|hb
 ·rw [e];exact I.free
 ·obtain ⟨_,o,ho,_⟩:=I.ok.funs.mem hb
  exact I.base.free b o ho (I.ok.frf b hb) λz=>I.ok.exfs b z hb
def Inv.step {g':Array GenState}{t':Nat}{d':Drawn}{ch:Ae}(I:Inv X pins σ H s)
  (fZ:∀b∈ch,(b∈X.ex\/X.s₀.heap.objs.size<=b)/\b≠X.env.locals/\(∀x c,X.env.cells.lookup x=some c->c≠b)/\∀p∈X.pn++pins,p.1≠b)
  (keep:∀b o,b≠X.env.locals->b∉X.fs->b∉ch->s.heap.get? b=some o->H b=none->h'.get? b=some o)
  (slot:∀b o,b≠X.env.locals->b∈X.fs->b∉ch->s.heap.get? b=some o->H b=none->∃sl,h'.get? b=some { o with slots:=sl }) (free:∀b o,b∉ch->s.heap.get? b=some o->H b=none->H' b=none)
  (there:∀b o,b∉ch->s.heap.get? b=some o->∃o',h'.get? b=some o')
  (tups:∀b xs,H b=some (.tup xs)->H' b=some (.tup xs)) (frzs:∀b o u,H b=some (.frz o u)->H' b=some (.frz o u)) (tbls:∀b ps,H b=some (.tbl ps)->∃more,H' b=some (.tbl (ps++more)))
  (ns:∀m,s.heap.Ns X.env.locals m->h'.Ns X.env.locals m) (hok:bH X.prog X.w H' h') (hg:AllBare g') :
  Inv X pins σ H' { s with heap:=h',gens:=g',drawn:=d',toks:=t' }:=by
 have w_:∀b o,X.s₀.heap.get? b=some o->b≠X.env.locals:=λb o e=>yD (je (yh e) I.ok.above)
 have f6:∀b o,X.s₀.heap.get? b=some o->b∉X.ex->b∉ch:=λb o e hx hb=>by
  rcases (fZ b hb).1 with z|z
  ·exact hx z
  ·exact absurd (je (yh e) z) (Nat.lt_irrefl _)
 have cellK:∀x c,X.env.cells.lookup x=some c->∀v,s.heap.IsCell c v->h'.IsCell c v:=λx c e v ⟨o,ho,hd⟩=>by
  have fy:c∉ch:=λz=>(fZ c z).2.2.1 x c e rfl
  by_cases hc:c∈X.fs
  ·obtain ⟨sl,q⟩:=slot c o (I.cne x c e) hc fy ho (I.freeC x c e)
   exact ⟨_,q,hd⟩
  ·exact ⟨o,keep c o (I.cne x c e) hc fy ho (I.freeC x c e),hd⟩
 refine ⟨I.ok,I.os,hg,⟨λb o e n hb hx=>?_,λb o e n hb hx=>?_,λb o e n hx=>?_,λb o e hx=>?_,λb xs e=>tups b xs (I.base.tups b xs e),λb o xs e=>frzs b o xs (I.base.frzs b o xs e),λb ps e=>?_⟩,?_,λx c e=>?_,?_,λx c e=>?_,λp hp=>?_,hok,I.len⟩
 ·exact keep b o (w_ b o e) hb (f6 b o e hx) (I.base.keep b o e n hb hx) (I.base.free b o e n hx)
 ·obtain ⟨sl,e1⟩:=I.base.slot b o e n hb hx
  obtain ⟨pf,e2⟩:=slot b _ (w_ b o e) hb (f6 b o e hx) e1 (I.base.free b o e n hx)
  exact ⟨pf,e2⟩
 ·obtain ⟨o',e1⟩:=I.base.there b o e hx
  exact free b o' (f6 b o e hx) e1 (I.base.free b o e n hx)
 ·obtain ⟨o',e1⟩:=I.base.there b o e hx
  exact there b o' (f6 b o e hx) e1
 ·obtain ⟨m1,e1⟩:=I.base.tbls b ps e
  obtain ⟨m2,e2⟩:=tbls b _ e1
  exact ⟨m1++m2,by rw [e2,Array.append_assoc]⟩
 ·obtain ⟨m,hn,hl⟩:=I.loc
  refine ⟨m,ns m hn,λi x v e1 e2 e3=>?_⟩
  obtain ⟨u,r,l⟩:=hl i x v e1 e2 e3
  refine ⟨u,r,?_⟩
  rcases l with l|⟨k,c,e,z⟩
  ·exact .inl l
  ·exact .inr ⟨k,c,e,cellK x c e _ z⟩
 ·obtain ⟨v,z⟩:=I.cell x c e
  exact ⟨v,cellK x c e v z⟩
 ·obtain ⟨m,⟨o,_,_,ho,_⟩,_⟩:=I.loc
  exact free _ o (λz=>(fZ _ z).2.1 rfl) ho I.free
 ·obtain ⟨v,o,ho,hd⟩:=I.cell x c e
  exact free c o (λz=>(fZ c z).2.2.1 x c e rfl) ho (I.freeC x c e)
 ·obtain ⟨e,n,ne,nf,d⟩:=I.pin p hp
  have fy:p.1∉ch:=λz=>(fZ p.1 z).2.2.2 p hp rfl
  exact ⟨keep p.1 p.2 ne nf fy e n,free p.1 p.2 fy e n,ne,nf,d⟩
def Inv.un {t':Nat}(I:Inv X pins σ H s) (u:Un X.fs [] H H' s.heap h') (hok:bH X.prog X.w H' h'):Inv X pins σ H' { s with heap:=h',toks:=t' }:=by
 obtain ⟨m,⟨o,es,ep,ho,r⟩,_⟩:=id I.loc
 obtain ⟨sl,hL⟩:=u.any ho I.free (by simp)
 exact I.step (g':=s.gens) (d':=s.drawn) (ch:=[]) (λ_ z=>nomatch z) (λb o _ hb _ e n=>u.keep b o e n hb (by simp)) (λb o _ hb _ e n=>u.slot b o e n hb (by simp)) (λb o _ e n=>u.free b o e n (by simp)) (λb o _ e=>u.there b o e (by simp)) u.tups u.frzs u.tbls (λm' hm=>by
  obtain ⟨o',pj,pk,ho',r'⟩:=hm
  rw [ho] at ho';cases ho'
  exact ⟨_,pj,pk,hL,r'⟩) hok I.bare
def Inv.call {g':Array GenState}{t':Nat}{d':Drawn}{ch:Ae}(I:Inv X pins σ H s) (u:Un (cA X.stack) ch H H' s.heap h') (hok:bH X.prog X.w H' h') (hg:AllBare g')
  (fZ:∀b∈ch,(b∈X.ex\/X.s₀.heap.objs.size<=b)/\b≠X.env.locals/\(∀x c,X.env.cells.lookup x=some c->c≠b)/\∀p∈X.pn++pins,p.1≠b) :
  Inv X pins σ H' { s with heap:=h',gens:=g',drawn:=d',toks:=t' }:=by
 obtain ⟨m,⟨o,es,ep,ho,r⟩,_⟩:=id I.loc
 obtain ⟨sl,hL⟩:=u.any ho I.free λz=>(fZ _ z).2.1 rfl
 exact I.step (ch:=ch) fZ (λb o hL hb hc e n=>u.keep b o e n (λz=>(yL.mp (I.stkSub b z)).elim hL hb) hc) (λb o _ _ hc e n=>u.any e n hc) (λb o hc e n=>u.free b o e n hc) (λb o hc e=>u.there b o e hc) u.tups u.frzs u.tbls (λm' hm=>by
  obtain ⟨o',pj,pk,ho',r'⟩:=hm
  rw [ho] at ho';cases ho'
  exact ⟨_,pj,pk,hL,r'⟩) hok hg
def Inv.turned {t':Nat}{it:Addr}(I:Inv X pins σ H s) (k:∀b o,b≠it->s.heap.get? b=some o->h'.get? b=some o) (hn:H it=none) (hL:it≠X.env.locals)
  (h1:it∈X.ex\/X.s₀.heap.objs.size<=it) (h2:∀x c,X.env.cells.lookup x=some c->c≠it) (h3:∀p∈X.pn++pins,p.1≠it):Inv X pins σ H { s with heap:=h',toks:=t' }:=by
 have xb:∀b u,H b=some u->b≠it:=λb u e z=>by rw [z,hn] at e;cases e
 refine I.step (g':=s.gens) (d':=s.drawn) (ch:=[it]) (λb hb=>?_) (λb o _ _ hc e _=>k b o (λz=>hc (by simp [z])) e) (λb o _ _ hc e _=>⟨o.slots,k b o (λz=>hc (by simp [z])) e⟩) (λ_ _ _ _ n=>n)
  (λb o hc e=>⟨o,k b o (λz=>hc (by simp [z])) e⟩) (λ_ _ e=>e) (λ_ _ _ e=>e) (λb ps e=>⟨#[],by rw [e];simp⟩) (λm hm=>?_) (λb u e=>?_) I.bare
 ·have e:b=it:=by simpa using hb
  subst e
  exact ⟨h1,hL,h2,h3⟩
 ·obtain ⟨o,es,ep,ho,r⟩:=hm
  exact ⟨o,es,ep,k _ o (yw hL) ho,r⟩
 ·refine (I.hok b u e).stay (λc v hc q=>k c v ?_ q) (λ_ q=>q) λ_ _ q=>q
  rcases hc with z|z
  ·rw [z];exact xb b u e
  ·exact xb c _ z
def Inv.tok (I:Inv X pins σ H s) (t:Nat):Inv X pins σ H { s with toks:=t }:=I.un (h':=s.heap) (t':=t) Un.refl I.hok
def Inv.kept {t':Nat}(I:Inv X pins σ H s) (k:∀b u,s.heap.get? b=some u->h'.get? b=some u):Inv X pins σ H { s with heap:=h',toks:=t' }:=I.un (Un.kept k) (I.hok.kept k)
def Inv.laid {a:Addr}{o:HO}{t':Nat}(I:Inv X pins σ H s) (k:∀b u,s.heap.get? b=some u->h'.get? b=some u) (hp:s.heap.objs.size<=a) (new:aZ X.prog X.w (upd H a o) h' a o) :
  Inv X pins σ (upd H a o) { s with heap:=h',toks:=t' }:=I.un (Un.laid k hp (I.hok.fresh hp)) (I.hok.laid k hp new)
def Inv.write {x e:Addr}{o:HO}{t':Nat}(I:Inv X pins σ H s) (mu:lE (H x)) (he:e=x\/H e=some (.own x)) (k:∀b u,b≠e->s.heap.get? b=some u->h'.get? b=some u) (lG:∃u,h'.get? e=some u)
  (new:aZ X.prog X.w (upd H x o) h' x o):Inv X pins σ (upd H x o) { s with heap:=h',toks:=t' }:=I.un (Un.write mu he k lG) (I.hok.write mu he k lG new)
def Inv.weak {ah:List (Option V)}(I:Inv X pins σ H s) (hl:ah.length=σ.length) (w:∀(i:Nat) v,ah[i]?=some (some v)->σ[i]?=some (some v)):Inv X pins ah H s :=
 ⟨I.ok,I.os,I.bare,I.base,let ⟨m,hn,mP⟩:=I.loc;⟨m,hn,λi x v e1 e2 e3=>mP i x v e1 (w i v e2) e3⟩,I.cell,I.free,I.freeC,I.pin,I.hok,hl.trans I.len⟩
def Inv.pins_of {pins':Ac}(I:Inv X pins σ H s) (h:∀p∈pins',s.heap.get? p.1=some p.2/\H p.1=none/\p.1≠X.env.locals/\p.1∉X.fs/\∀v,p.2.data ≠ .cell v):Inv X pins' σ H s :=
 ⟨I.ok,I.os,I.bare,I.base,I.loc,I.cell,I.free,I.freeC,λp hp=>(mK.mp hp).elim (λz=>I.pin p (ly _ z)) (h p),I.hok,I.len⟩
def rW {N:Ad}(hN:N.Nodup) {i j:Nat}{x:Str}(a:N[i]?=some x) (b:N[j]?=some x):i=j:=by
 obtain ⟨h1,e1⟩:=yr.mp a
 obtain ⟨h2,e2⟩:=yr.mp b
 exact (List.getElem_inj hN).mp (e1.trans e2.symm)
def Gw {M:Model}{A:Around}{E:Aa}{i:Nat}{x:Str}{v:V}{u:Value}{Q:Unit->Shared->Prop}(I:Inv X pins σ H s) (hN:X.N.Nodup) (hi:X.N[i]?=some x) (hx:Loc X.env.scope x) (r:RelV v u)
  (h:∀s',Inv X pins (σ.set i (some v)) H s'->(∃a,Heap.SameBut a s.heap s'.heap/\(a=X.env.locals\/X.env.cells.lookup x=some a))->Q () s') (hf:X.fn x=true\/X.env.scope.names.lookup x=some .local:=by first|exact .inl rfl|exact .inr rfl|assumption):wpAny M A (storeName X.env x u) Q E s:=by
 obtain ⟨m,hn,hl⟩:=id I.loc
 have g_:(X.env.scope.kind == .class||(X.env.scope.kind == .module&&X.env.locals != X.env.globals))=false:=by rw [I.ok.kind];rfl
 have aG:i<σ.length:=by rw [I.len];exact (yr.mp hi).1
 have cne:=I.cne
 have tracked:∀{a:Addr} {h':Heap},(∃o,s.heap.get? a=some o/\H a=none)->Heap.SameBut a s.heap h'->bH X.prog X.w H h':=λ{a h'} ha hs b ob e=>by
  obtain ⟨_,_,gp⟩:=ha
  refine (I.hok b ob e).stay (λc w' hc q=>(hs.2 c ?_).trans q) (λ_ q=>q) λ_ _ q=>q
  rintro rfl
  rcases hc with rfl|hc
  ·rw [gp] at e;cases e
  ·rw [gp] at hc;cases hc
 rcases hx with hk|hk
 ·refine wpAny_storeName_local hk hn (λh' iZ hs=>?_) g_
  obtain ⟨oL,_,_,xf,_⟩:=id hn
  refine h _ ⟨I.ok,I.os,I.bare,⟨λb o e n hb hx=>?_,λb o e n hb hx=>?_,I.base.free,λb o e hx=>?_,I.base.tups,I.base.frzs,I.base.tbls⟩,⟨_,iZ,λj y v' e1 e2 e3=>?_⟩,λy c e=>?_,I.free,I.freeC,λp hp=>?_,tracked ⟨oL,xf,I.free⟩ hs,by simpa using I.len⟩ ⟨_,hs,.inl rfl⟩
  ·exact (hs.2 b (yD (je (yh e) I.ok.above))).trans (I.base.keep b o e n hb hx)
  ·obtain ⟨sl,e1⟩:=I.base.slot b o e n hb hx
   exact ⟨sl,(hs.2 b (yD (je (yh e) I.ok.above))).trans e1⟩
  ·obtain ⟨o',e1⟩:=I.base.there b o e hx
   exact ⟨o',(hs.2 b (yD (je (yh e) I.ok.above))).trans e1⟩
  ·by_cases hj:j=i
   ·subst hj
    rw [hi] at e1;cases e1
    rw [yW aG] at e2
    cases e2
    exact ⟨u,r,.inl ⟨hk,by simp⟩⟩
   ·rw [jd (yw hj)] at e2
    obtain ⟨u',r',q⟩:=hl j y v' e1 e2 e3
    refine ⟨u',r',?_⟩
    rcases q with ⟨k,e⟩|⟨k,c,e,z⟩
    ·refine .inl ⟨k,?_⟩
     have:y≠x:=λe=>hj (rW hN e1 (e▸hi))
     simp [this,e]
    ·exact .inr ⟨k,c,e,z.sameBut hs (cne y c e)⟩
  ·obtain ⟨w',z⟩:=I.cell y c e
   exact ⟨w',z.sameBut hs (cne y c e)⟩
  ·obtain ⟨e,n,ne,nf,d⟩:=I.pin p hp
   exact ⟨(hs.2 p.1 ne).trans e,n,ne,nf,d⟩
 ·have mQ:X.fn x=true:=by
   rcases hf with z|z
   ·exact z
   ·rw [z] at hk;cases hk
  obtain ⟨c,hc⟩:=I.ok.has x (.inl hk)
  obtain ⟨w',z⟩:=I.cell x c hc
  refine wpAny_storeName_cell I.ok.kind hk hc z (λh' cw hs=>?_)
  obtain ⟨oc,xg,xh⟩:=id z
  refine h { s with heap:=h' } ⟨I.ok,I.os,I.bare,⟨λb o e n hb hx=>?_,λb o e n hb hx=>?_,I.base.free,λb o e hx=>?_,I.base.tups,I.base.frzs,I.base.tbls⟩,⟨m,hn.sameBut hs (yw (cne x c hc)),λj y v' e1 e2 e3=>?_⟩,λy c' e=>?_,I.free,I.freeC,λp hp=>?_,tracked ⟨oc,xg,I.freeC x c hc⟩ hs,by simpa using I.len⟩ ⟨c,hs,.inr hc⟩
  ·exact (hs.2 b (yD (je (yh e) (I.ok.cab x c mQ hc)))).trans (I.base.keep b o e n hb hx)
  ·obtain ⟨sl,e1⟩:=I.base.slot b o e n hb hx
   exact ⟨sl,(hs.2 b (yD (je (yh e) (I.ok.cab x c mQ hc)))).trans e1⟩
  ·obtain ⟨o',e1⟩:=I.base.there b o e hx
   exact ⟨o',(hs.2 b (yD (je (yh e) (I.ok.cab x c mQ hc)))).trans e1⟩
  ·by_cases hj:j=i
   ·subst hj
    rw [hi] at e1;cases e1
    rw [yW aG] at e2
    cases e2
    exact ⟨u,r,.inr ⟨.inl hk,c,hc,cw⟩⟩
   ·rw [jd (yw hj)] at e2
    obtain ⟨u',r',q⟩:=hl j y v' e1 e2 e3
    refine ⟨u',r',?_⟩
    rcases q with q|⟨k,c',e,z'⟩
    ·exact .inl q
    ·refine .inr ⟨k,c',e,z'.sameBut hs ?_⟩
     rintro rfl
     exact hj (rW hN e1 (I.ok.inj _ _ _ e hc▸hi))
  ·by_cases lH:c'=c
   ·subst lH;exact ⟨_,cw⟩
   ·obtain ⟨w2,z2⟩:=I.cell y c' e
    exact ⟨w2,z2.sameBut hs lH⟩
  ·obtain ⟨e,n,ne,nf,d⟩:=I.pin p hp
   refine ⟨(hs.2 p.1 ?_).trans e,n,ne,nf,d⟩
   intro q
   rw [q,xg] at e
   have q':oc=p.2:=Option.some.inj e
   exact d w' (by rw [<-q'];exact xh)
def lI {M:Model}{A:Around}{E:Aa}{i:Nat}{x:Str}{v:V}{u:Value}{Q:Unit->Shared->Prop}(I:Inv X pins σ H s) (hN:X.N.Nodup) (hi:X.N[i]?=some x) (hx:Loc X.env.scope x) (r:RelV v u)
  (h:∀s',Inv X pins (σ.set i (some v)) H s'->Q () s') (hf:X.fn x=true\/X.env.scope.names.lookup x=some .local:=by first|exact .inl rfl|exact .inr rfl|assumption):wpAny M A (storeName X.env x u) Q E s :=
 Gw I hN hi hx r (λs' I' _=>h s' I') hf
def Inv.call' {s':Shared}{ch:Ae}(I:Inv X pins σ H s) (ho:s'.os=s.os) (u:Un (cA X.stack) ch H H' s.heap s'.heap) (hok:bH X.prog X.w H' s'.heap) (hg:AllBare s'.gens)
  (fZ:∀b∈ch,(b∈X.ex\/X.s₀.heap.objs.size<=b)/\b≠X.env.locals/\(∀x c,X.env.cells.lookup x=some c->c≠b)/\∀p∈X.pn++pins,p.1≠b):Inv X pins σ H' s':=by
 obtain ⟨h',g',d',t',o'⟩:=s'
 have e:o'=s.os:=ho
 subst e
 exact I.call (g':=g') (t':=t') (d':=d') u hok hg fZ
end
abbrev XK:=Value->Option Addr->Hp->Prop
abbrev St:=List (Option V)
abbrev VK:=V->Hp->Prop
abbrev TE:=St->Hp->VK->Prop
abbrev TT:=St->Hp->(Bool->Hp->Prop)->Prop
abbrev TA:=St->Hp->(List V->Hp->Prop)->Prop
structure Ends where
 nx:St->Hp->Prop
 rt:VK
 bk:St->Hp->Prop:=λ_ _=>False
 ct:St->Hp->Prop:=λ_ _=>False
abbrev TS:=Ends->St->Hp->Prop
def EP (X:Cx) (pins:Ac) (σ:St) (Q:VK) (u:Value) (s':Shared):Prop:=∃v H',Inv X pins σ H' s'/\RelV v u/\Q v H'
def TP (X:Cx) (pins:Ac) (σ:St) (Q:Bool->Hp->Prop) (b:Bool) (s':Shared):Prop:=∃H',Inv X pins σ H' s'/\Q b H'
def AP (X:Cx) (pins:Ac) (σ:St) (Q:List V->Hp->Prop) (us:Af) (s':Shared):Prop:=∃vs H',Inv X pins σ H' s'/\Vals vs us/\Q vs H'
def SP (X:Cx) (pins:Ac) (D:Ends) (f:Flow) (s':Shared):Prop :=
 match f with
 | .next=>∃ah H',Inv X pins ah H' s'/\D.nx ah H'
 | .brk=>∃ah H',Inv X pins ah H' s'/\D.bk ah H'
 | .cont=>∃ah H',Inv X pins ah H' s'/\D.ct ah H'
 | .ret u=>∃v ah H',Inv X pins ah H' s'/\RelV v u/\D.rt v H'
def PE (X:Cx) (e:Expr) (t:TE):Prop :=
 ∀(pins:Ac) (s:Shared) (σ:St) (H:Hp) (Q:VK),Inv X pins σ H s->t σ H Q->wpAny (model X.prog X.w) X.A (eval e X.env) (EP X pins σ Q) X.xe s
def PT (X:Cx) (e:Expr) (t:TT):Prop :=
 ∀(pins:Ac) (s:Shared) (σ:St) (H:Hp) (Q:Bool->Hp->Prop),Inv X pins σ H s->t σ H Q->wpAny (model X.prog X.w) X.A (isTrue e X.env (eval e X.env)) (TP X pins σ Q) X.xe s
def PW (X:Cx) (e:Expr) (t:TT):Prop :=
 ∀(whole:Sem Value) (pins:Ac) (s:Shared) (σ:St) (H:Hp) (Q:Bool->Hp->Prop),Inv X pins σ H s->t σ H Q->wpAny (model X.prog X.w) X.A (isTrue e X.env whole) (TP X pins σ Q) X.xe s
def PW.pt {X:Cx}{e:Expr}{t:TT}(h:PW X e t):PT X e t:=h _
def PA (X:Cx) (es:List Expr) (t:TA):Prop :=
 ∀(pos:Pos) (pins:Ac) (s:Shared) (σ:St) (H:Hp) (Q:List V->Hp->Prop),Inv X pins σ H s->t σ H Q->wpAny (model X.prog X.w) X.A (spliced (backTo pos (starEach es X.env))) (AP X pins σ Q) X.xe s
def PS (X:Cx) (st:Stmt) (t:TS):Prop :=
 ∀(pins:Ac) (s:Shared) (σ:St) (H:Hp) (D:Ends),Inv X pins σ H s->t D σ H->wpAny (model X.prog X.w) X.A (exec st X.env) (SP X pins D) X.xe s
def bS (X:Cx) (st:List Stmt) (t:TS):Prop :=
 ∀(pins:Ac) (s:Shared) (σ:St) (H:Hp) (D:Ends),Inv X pins σ H s->t D σ H->wpAny (model X.prog X.w) X.A (execs st X.env) (SP X pins D) X.xe s
def aS {α:Type}{t:Sem α}{Q Q':α->Shared->Prop}{M:Model}{A:Around}{E:Aa}{s:Shared}(h:wpAny M A t Q E s) (hQ:∀a s,Q a s->Q' a s):wpAny M A t Q' E s:=yV h hQ λ_ _ x=>x
section
variable {X:Cx}
def pq (i:Nat):TE:=fun σ H Q=>∃v,σ[i]?=some (some v)/\Q v H
def tC (v:V):TE:=λ_ H Q=>Q v H
def xi {i:Nat} {x:Str} {pos:Pos} (hN:X.N[i]?=some x) (hv:mO X.env.scope x) (hd:(x==("__debug__" : Str))=false:=by decide) (dU:(x==("__classdict__" : Str))=false:=by decide):PE X (.Name x pos) (pq i):=by
 intro pins s σ H Q I h
 obtain ⟨v,e,h⟩:=h
 obtain ⟨m,hn,hl⟩:=I.loc
 obtain ⟨u,r,l⟩:=hl i x v hN e hv
 have fin:EP X pins σ Q u s:=⟨v,H,I,r,h⟩
 rcases l with ⟨hk,hm⟩|⟨hk,c,hc,dq⟩
 ·exact wpAny_Name (wpAny_loadName_local I.ok.kind hk hn hm fin) hd
 ·rcases hk with hk|hk
  ·exact wpAny_Name (wpAny_loadName_cell I.ok.kind hk hc dq fin) hd
  ·exact wpAny_Name (wpAny_loadName_free I.ok.kind hk hc dq fin dU) hd
def Gx {i j pos}:PE X (.Constant (.int i) j pos) (tC (.int i)):=λ_ _ _ H _ I h=>wpAny_Constant_int ⟨.int i,H,I.tok _,⟨_,rfl⟩,h⟩
def Gy {b j pos}:PE X (.Constant (.bool b) j pos) (tC (.bl b)):=λ_ _ _ H _ I h=>Constant_bool ⟨.bl b,H,I,rfl,h⟩
def Gz {j pos}:PE X (.Constant .none j pos) (tC .non):=λ_ _ _ H _ I h=>Constant_none ⟨.non,H,I,rfl,h⟩
def GA {x j pos}:PE X (.Constant (.str x) j pos) (tC (.str x)):=λ_ _ _ H _ I h=>Calls.Constant_str ⟨.str x,H,I.tok _,⟨_,rfl⟩,h⟩
def Gl (X:Cx) (x:Str):Prop:=X.env.kindOf x=some .globalImplicit
def mR {E:Aa}{pins:Ac}{s:Shared}{σ:St}{H:Hp}{x:Str}{u:Value}{pos:Pos}{Q:Aa}(I:Inv X pins σ H s) (hg:Gl X x) (hm:X.mg x=some u) (h:Q u s)
  (hd:(x==("__debug__" : Str))=false:=by decide):wpAny (model X.prog X.w) X.A (eval (.Name x pos) X.env) Q E s :=
 Calls.Name_function_global I.ok.kind hg (Calls.loadGlobal_global (by rw [I.ok.glob];exact I.mod.glob.keeps I.bk) hm h) hd
def wH {E:Aa}{pins:Ac}{s:Shared}{σ:St}{H:Hp}{x:Str}{u:Value}{pos:Pos}{Q:Aa}(I:Inv X pins σ H s) (hg:Gl X x) (hm:X.mg x=none) (hv:bootBuiltins x=some u) (h:Q u s)
  (hn:x ≠ "__name__" := by decide) (hd:(x==("__debug__" : Str))=false:=by decide):wpAny (model X.prog X.w) X.A (eval (.Name x pos) X.env) Q E s:=by
 obtain ⟨mb,h1,h2⟩:=I.mod.blt
 exact Calls.Name_function_global I.ok.kind hg (Calls.loadGlobal_builtin (by rw [I.ok.glob];exact I.mod.glob.keeps I.bk) hm (by rw [I.ok.blt];exact h1.keeps I.bk) ((h2 x hn).trans hv) h) hd
def rX {x:Str} {v:V} {u:Value} {pos:Pos} (hg:Gl X x) (hm:X.mg x=some u) (r:RelV v u) (hd:(x==("__debug__" : Str))=false:=by decide):PE X (.Name x pos) (tC v) :=
 λ_ _ _ H _ I h=>mR I hg hm ⟨v,H,I,r,h⟩ hd
def GB {x:Str} {v:V} {u:Value} {pos:Pos} (hg:Gl X x) (hm:X.mg x=none) (hv:bootBuiltins x=some u) (r:RelV v u) (hn:x ≠ "__name__" := by decide) (hd:(x==("__debug__" : Str))=false:=by decide):PE X (.Name x pos) (tC v) :=
 λ_ _ _ H _ I h=>wH I hg hm hv ⟨v,H,I,r,h⟩ hn hd
variable {a b:Expr}{ta tb:TE}{pos:Pos}
def tB (t:TE):TT:=fun σ H Q=>t σ H λx H1=>∃c,x=.bl c/\Q c H1
def GC {e:Expr}{t:TE}(h:PE X e t) (he:∀whole,isTrue e X.env whole=(do let v <-whole;standAt e.pos;holding [v] (truthy v)):=by intro _;rfl):PT X e (tB t):=by
 intro pins s σ H Q I hw
 refine isTrue_plain (aS (h pins s σ H _ I hw) λv s1 ⟨x,H1,I1,r1,q1⟩=>?_) (he _)
 obtain ⟨d,rfl,q⟩:=q1
 cases r1
 exact wC ⟨H1,I1,q⟩
variable {tA pz:TT}{rest:List Expr}
def GD (t u:TT):TT:=fun σ H Q=>t σ H λc H1=>if c=true then u σ H1 Q else Q false H1
def GF (t u:TT):TT:=fun σ H Q=>t σ H λc H1=>if c=true then Q true H1 else u σ H1 Q
def GG (t:TT):TT:=fun σ H Q=>t σ H λc H1=>Q (!c) H1
def GH (ha:PT X a tA):PW X (.BoolOp .And [a] pos) tA:=by
 intro wh pins s σ H Q I h
 refine isTrue_and (aS (ha pins s σ H Q I h) λc s1 e=>?_)
 cases c with
 | true=>exact isTrue_and_nil e
 | false=>exact e
def GI (ha:PT X a tA):PW X (.BoolOp .Or [a] pos) tA:=by
 intro wh pins s σ H Q I h
 refine isTrue_or (aS (ha pins s σ H Q I h) λc s1 e=>?_)
 cases c with
 | false=>exact isTrue_or_nil e
 | true=>exact e
def GJ (ha:PT X a tA) (hb:PW X (.BoolOp .And (b::rest) pos) pz):PW X (.BoolOp .And (a::b::rest) pos) (GD tA pz):=by
 intro wh pins s σ H Q I h
 refine isTrue_and (aS (ha pins s σ H _ I h) λc s1 ⟨H1,I1,q1⟩=>?_)
 cases c with
 | true=>exact hb wh pins s1 σ H1 Q I1 q1
 | false=>exact ⟨H1,I1,q1⟩
def GK (ha:PT X a tA) (hb:PW X (.BoolOp .Or (b::rest) pos) pz):PW X (.BoolOp .Or (a::b::rest) pos) (GF tA pz):=by
 intro wh pins s σ H Q I h
 refine isTrue_or (aS (ha pins s σ H _ I h) λc s1 ⟨H1,I1,q1⟩=>?_)
 cases c with
 | true=>exact ⟨H1,I1,q1⟩
 | false=>exact hb wh pins s1 σ H1 Q I1 q1
def GL (ha:PT X a tA):PT X (.UnaryOp .Not a pos) (GG tA):=by
 intro pins s σ H Q I h
 exact isTrue_not (ha pins s σ H (λc H1=>Q (!c) H1) I h)
def GN (ta tb:TE):TE:=fun σ H Q=>ta σ H λx H1=>∃c,x=.bl c/\if c=true then tb σ H1 Q else Q (.bl false) H1
def GO (ta:TE):TE:=fun σ H Q=>ta σ H λx H1=>∃c,x=.bl c/\Q (.bl (!c)) H1
def GP {op}{t:TE}(h:PE X a t):PE X (.BoolOp op [a] pos) t:=λpins s σ H Q I hw=>BoolOp_one (h pins s σ H Q I hw)
def GQ (ha:PE X a ta) (hb:PE X (.BoolOp .And (b::rest) pos) tb):PE X (.BoolOp .And (a::b::rest) pos) (GN ta tb):=by
 intro pins s σ H Q I h
 refine BoolOp_and (aS (ha pins s σ H _ I h) λv s1 ⟨x,H1,I1,r1,q1⟩=>?_)
 obtain ⟨c,rfl,q1⟩:=q1
 cases r1
 refine wC ?_
 cases c with
 | true=>exact hb pins s1 σ H1 Q I1 q1
 | false=>exact ⟨.bl false,H1,I1,rfl,q1⟩
def GR (ha:PE X a ta):PE X (.UnaryOp .Not a pos) (GO ta):=by
 intro pins s σ H Q I h
 refine UnaryOp_ (aS (ha pins s σ H _ I h) λv s1 ⟨x,H1,I1,r1,q1⟩=>?_)
 obtain ⟨c,rfl,q1⟩:=q1
 cases r1
 exact not_of (wC ⟨.bl (!c),H1,I1,rfl,q1⟩)
def GS (t:TT) (ta tb:TE):TE:=fun σ H Q=>t σ H λc H1=>if c=true then ta σ H1 Q else tb σ H1 Q
def GU {c:Expr}(hc:PT X c tA) (ha:PE X a ta) (hb:PE X b tb):PE X (.IfExp c a b pos) (GS tA ta tb):=by
 intro pins s σ H Q I h
 refine wpAny_IfExp (aS (hc pins s σ H _ I h) λd s1 ⟨H1,I1,q1⟩=>?_)
 cases d with
 | true=>exact ha pins s1 σ H1 Q I1 q1
 | false=>exact hb pins s1 σ H1 Q I1 q1
end
def a4 (K:PySem.W.Frag) (H:Hp) (a:Addr) (xs:List V):Prop :=
 Rd H a (.lst xs) \/
  ∃(o:Obj) (its:Array Value) (n:Nat),K.lookup a=some o/\o.cls=.type "list" /\ o.dict=none/\o.data=.seq its n/\its.size<=sizeLine/\Vals xs its.toList
def ba (K:PySem.W.Frag) (H:Hp) (a:Addr) (xs:List V):Prop :=
 Rd H a (.tup xs) \/
  ∃(o:Obj) (its:Array Value) (n:Nat),K.lookup a=some o/\o.cls=.type "tuple" /\ o.data=.seq its n/\its.size<=sizeLine/\Vals xs its.toList
def xj:Value->Option V
 | .none=>some .non
 | .bool b=>some (.bl b)
 | .int i _=>some (.int i)
 | .str x _=>some (.str x)
 | .bytes b _=>some (.byt b)
 | .float b _=>some (.flt b)
 | .ref a=>some (.ref a)
 | .type n=>some (.ty n)
 | _=>none
def RelV.abs {x:V}{u:Value}(r:RelV x u):xj u=some x:=by
 cases x with
 | non=>cases r;rfl
 | bl _=>cases r;rfl
 | int _=>obtain ⟨t,rfl⟩:=r;rfl
 | str _=>obtain ⟨t,rfl⟩:=r;rfl
 | byt _=>obtain ⟨t,rfl⟩:=r;rfl
 | flt _=>obtain ⟨t,rfl⟩:=r;rfl
 | ref _=>cases r;rfl
 | ty _=>cases r;rfl
def RelV.inj {x y:V}{u:Value}(r:RelV x u) (q:RelV y u):x=y:=Option.some.inj (r.abs.symm.trans q.abs)
def Vals.inj:∀{xs ys:List V}{us:Af},Vals xs us->Vals ys us->xs=ys
 | _,_,_,.nil,.nil=>rfl
 | _,_,_,.cons r t,.cons r' t'=>by rw [r.inj r',Vals.inj t t']
section
variable {X:Cx}{pins:Ac}{σ:St}{H:Hp}{s:Shared}{a:Addr}{xs ys:List V}
def a4.of {K:PySem.W.Frag}(h:H a=some (.lst xs)):a4 K H a xs:=.inl (.inl h)
def ba.of {K:PySem.W.Frag}(h:H a=some (.tup xs)):ba K H a xs:=.inl (.inl h)
def Inv.list (I:Inv X pins σ H s) (h:a4 X.K H a xs):∃its:Af,Vals xs its/\PlainL s.heap a its.toArray/\xs.length<=sizeLine:=by
 rcases h with h|⟨o,its,n,hk,hc,hd,hs,hz,r⟩
 ·obtain ⟨z,its,n,r,e⟩:=h.ok I.hok
  exact ⟨its,r,⟨_,n,e,rfl,rfl,rfl⟩,z⟩
 ·refine ⟨its.toList,r,⟨o,n,I.kIn a o hk,hc,hd,by simpa using hs⟩,?_⟩
  have e:=r.length
  simp only [Array.length_toList] at e
  omega
def Inv.tuple (I:Inv X pins σ H s) (h:ba X.K H a xs):∃its:Af,Vals xs its/\IsTup s.heap a its.toArray/\xs.length<=sizeLine:=by
 rcases h with h|⟨o,its,n,hk,hc,hs,hz,r⟩
 ·obtain ⟨z,its,r,p⟩:=h.ok I.hok
  exact ⟨its,r,p,z⟩
 ·refine ⟨its.toList,r,⟨o,I.kIn a o hk,hc,n,by simpa using hs⟩,?_⟩
  have e:=r.length
  simp only [Array.length_toList] at e
  omega
def Inv.list_inj (I:Inv X pins σ H s) (h:a4 X.K H a xs) (h':a4 X.K H a ys):xs=ys:=by
 obtain ⟨its,r,⟨o,n,e,_,_,d⟩,_⟩:=I.list h
 obtain ⟨its',r',⟨o',n',e',_,_,d'⟩,_⟩:=I.list h'
 rw [e] at e';cases e'
 rw [d] at d'
 injection d' with d1 _
 have:its=its':=by simpa using congrArg Array.toList d1
 subst this
 exact r.inj r'
def Inv.tuple_inj (I:Inv X pins σ H s) (h:ba X.K H a xs) (h':ba X.K H a ys):xs=ys:=by
 obtain ⟨its,r,⟨o,e,_,n,d⟩,_⟩:=I.tuple h
 obtain ⟨its',r',⟨o',e',_,n',d'⟩,_⟩:=I.tuple h'
 rw [e] at e';cases e'
 rw [d] at d'
 injection d' with d1 _
 have:its=its':=by simpa using congrArg Array.toList d1
 subst this
 exact r.inj r'
end
abbrev Cx.wish (X:Cx) (E:Aa):Cx:={ X with xe:=E }
abbrev Cx.nox (X:Cx):Cx:=X.wish λ_ _=>False
def Cx.Ok.wish {X:Cx}(ok:X.Ok) (E:Aa):(X.wish E).Ok :=
 ⟨ok.mod,ok.kind,ok.glob,ok.blt,ok.above,ok.inj,ok.has,ok.cab,ok.hd,ok.frames,ok.stk,ok.exf,ok.bs,ok.bsz,ok.noex,ok.exfs,ok.funs,ok.frf⟩
def Cx.Ok.unwish {X:Cx}{E:Aa}(ok:(X.wish E).Ok):X.Ok :=
 ⟨ok.mod,ok.kind,ok.glob,ok.blt,ok.above,ok.inj,ok.has,ok.cab,ok.hd,ok.frames,ok.stk,ok.exf,ok.bs,ok.bsz,ok.noex,ok.exfs,ok.funs,ok.frf⟩
section
variable {X:Cx}{pins:Ac}{σ:St}{H:Hp}{s:Shared}{E:Aa}
def Inv.wish (I:Inv X pins σ H s) (E:Aa):Inv (X.wish E) pins σ H s:=⟨I.ok.wish E,I.os,I.bare,I.base,I.loc,I.cell,I.free,I.freeC,I.pin,I.hok,I.len⟩
def Inv.unwish (I:Inv (X.wish E) pins σ H s):Inv X pins σ H s:=⟨I.ok.unwish,I.os,I.bare,I.base,I.loc,I.cell,I.free,I.freeC,I.pin,I.hok,I.len⟩
def SP.unwish {D:Ends}{f:Flow}{s':Shared}(h:SP (X.wish E) pins D f s'):SP X pins D f s':=by
 cases f with
 | next=>obtain ⟨ah,H',I,q⟩:=h;exact ⟨ah,H',I.unwish,q⟩
 | brk=>obtain ⟨ah,H',I,q⟩:=h;exact ⟨ah,H',I.unwish,q⟩
 | cont=>obtain ⟨ah,H',I,q⟩:=h;exact ⟨ah,H',I.unwish,q⟩
 | ret u=>obtain ⟨v,ah,H',I,r,q⟩:=h;exact ⟨v,ah,H',I.unwish,r,q⟩
def PE.nox {e:Expr}{t:TE}(h:PE X.nox e t):PE X e t:=λpins s σ H Q I hw =>
 yV (h pins s σ H Q (I.wish _) hw) (λ_ _ ⟨v,H',I',r,q⟩=>⟨v,H',I'.unwish,r,q⟩) λ_ _ z=>z.elim
def PT.nox {e:Expr}{t:TT}(h:PT X.nox e t):PT X e t:=λpins s σ H Q I hw =>
 yV (h pins s σ H Q (I.wish _) hw) (λ_ _ ⟨H',I',q⟩=>⟨H',I'.unwish,q⟩) λ_ _ z=>z.elim
def bS.nox {st:List Stmt}{t:TS}(h:bS X.nox st t):bS X st t:=λpins s σ H D I hw =>
 yV (h pins s σ H D (I.wish _) hw) (λ_ _ q=>q.unwish) λ_ _ z=>z.elim
end
section
variable {X:Cx}{st:Stmt}{rest:List Stmt}{t u:TS}{e:Expr}{te:TE}{pos:Pos}
def GV:TS:=λD σ H=>D.nx σ H
def GW (t u:TS):TS:=λD σ H=>t { D with nx:=u D } σ H
def GX:bS X [] GV:=λ_ _ σ H _ I h=>wpAny_execs_nil ⟨σ,H,I,h⟩
def GY (h1:PS X st t) (h2:bS X rest u):bS X (st::rest) (GW t u):=by
 intro pins s σ H D I h
 refine wpAny_execs_cons (aS (h1 pins s σ H { D with nx:=u D } I h) λf s1 q=>?_)
 cases f with
 | next =>
  obtain ⟨ah,H',I',q⟩:=q
  exact h2 pins s1 ah H' D I' q
 | ret v=>exact q
 | brk=>exact q
 | cont=>exact q
def xk (h1:PS X st t):bS X [st] t:=by
 intro pins s σ H D I h
 refine wpAny_execs_cons (aS (h1 pins s σ H D I h) λf s1 q=>?_)
 cases f with
 | next=>exact wpAny_execs_nil q
 | ret v=>exact q
 | brk=>exact q
 | cont=>exact q
def Inv.quiet {pins:Ac}{σ:St}{H:Hp}{s:Shared}(I:Inv X pins σ H s):interactive X.env=false:=by simp [interactive,I.ok.kind]
def GZ (te:TE):TS:=λD σ H=>te σ H λ_ H1=>D.nx σ H1
def G0 (he:PE X e te) (hs:swapsWith e none pos.line X.env=pure false:=by rfl):PS X (.Expr e pos) (GZ te):=by
 intro pins s σ H D I h
 exact wpAny_Expr_any (aS (he pins s σ H _ I h) λv s1 ⟨x,H1,I1,r1,q1⟩=>⟨σ,H1,I1,q1⟩) I.quiet hs
def G5 (te:TE):TS:=λD σ H=>te σ H D.rt
def G8 (he:PE X e te):PS X (.Return (some e) pos) (G5 te):=by
 intro pins s σ H D I h
 exact wpAny_Return_some (aS (he pins s σ H _ I h) λv s1 ⟨x,H1,I1,r1,q1⟩=>⟨x,σ,H1,I1,r1,q1⟩)
def G9 (c:TT) (t u:TS):TS:=λD σ H=>c σ H λb H1=>if b=true then t D σ H1 else u D σ H1
def G_ {c:Expr}{a b:List Stmt}{tc:TT}(hc:PT X c tc) (ha:bS X a t) (hb:bS X b u):PS X (.If c a b pos) (G9 tc t u):=by
 intro pins s σ H D I h
 refine wpAny_If (aS (hc pins s σ H _ I h) λd s1 ⟨H1,I1,q1⟩=>?_)
 cases d with
 | true=>exact ha pins s1 σ H1 D I1 q1
 | false=>exact hb pins s1 σ H1 D I1 q1
def xm:TS:=λ_ _ _=>False
def Ha:PS X st xm:=λ_ _ _ _ _ _ h=>h.elim
def Hb {cB:List Stmt}:bS X cB xm:=λ_ _ _ _ _ _ h=>h.elim
end
abbrev TG:=V->St->Hp->(St->Hp->Prop)->Prop
abbrev i0:=List V->St->Hp->(St->Hp->Prop)->Prop
def PG (X:Cx) (target:Expr) (t:TG):Prop :=
 ∀(pins:Ac) (s:Shared) (σ:St) (H:Hp) (v:V) (u:Value) (Q:St->Hp->Prop),Inv X pins σ H s->RelV v u->t v σ H Q ->
  wpAny (model X.prog X.w) X.A (assign target X.env u) (λ_ s'=>∃ah H',Inv X pins ah H' s'/\Q ah H') X.xe s
def pA (X:Cx) (ts:List Expr) (t:i0):Prop :=
 ∀(pins:Ac) (s:Shared) (σ:St) (H:Hp) (vs:List V) (us:Af) (Q:St->Hp->Prop),Inv X pins σ H s->Vals vs us->t vs σ H Q ->
  wpAny (model X.prog X.w) X.A (assignInOrder ((assignEach ts X.env).map (·.2)) us) (λ_ s'=>∃ah H',Inv X pins ah H' s'/\Q ah H') X.xe s
abbrev pB:=V->V->Hp->VK->Prop
def rY (X:Cx) (op:Operator) (t:pB):Prop :=
 ∀(pins:Ac) (s:Shared) (σ:St) (H:Hp) (x y:V) (v u:Value) (Q:VK),Inv X pins σ H s->RelV x v->RelV y u->t x y H Q ->
  wpAny (model X.prog X.w) X.A (inplaceOp op v u) (EP X pins σ Q) X.xe s
section
variable {X:Cx}{pos:Pos}
def wo (i:Nat):TG:=λv σ H Q=>Q (σ.set i (some v)) H
def wR {i:Nat}{x:Str}(hN:X.N.Nodup) (hi:X.N[i]?=some x) (hx:Loc X.env.scope x) (hf:X.fn x=true\/X.env.scope.names.lookup x=some .local:=by first|exact .inl rfl|exact .inr rfl|assumption):PG X (.Name x pos) (wo i):=by
 intro pins s σ H v u Q I r h
 exact wpAny_assign_Name (lI I hN hi hx r (λs' I'=>⟨_,H,I',h⟩) hf)
def xo:i0:=λvs σ H Q=>vs=[]/\Q σ H
def rZ (t:TG) (u:i0):i0:=λvs σ H Q=>∃v r,vs=v::r/\t v σ H λah H'=>u r ah H' Q
def xq:pA X [] xo:=by
 intro pins s σ H vs us Q I r h
 obtain ⟨e,h⟩:=h
 subst e
 cases r
 exact assignInOrder_nil ⟨σ,H,I,h⟩
def pD {e:Expr}{es:List Expr}{t:TG}{u:i0}(h1:PG X e t) (h2:pA X es u)
  (hs:(assignEach (e::es) X.env).map (·.2)=assign e X.env::(assignEach es X.env).map (·.2):=by rfl):pA X (e::es) (rZ t u):=by
 intro pins s σ H vs us Q I r h
 obtain ⟨v,vr,e1,h⟩:=h
 subst e1
 cases r with
 | cons r rr =>
  rw [hs]
  refine assignInOrder_cons (aS (h1 pins s σ H _ _ _ I r h) λ_ s1 ⟨aw,H1,I1,q1⟩=>?_)
  exact h2 pins s1 aw H1 _ _ Q I1 rr q1
def xt (K:PySem.W.Frag) (n:Nat) (t:i0):TG:=λv σ H Q=>∃a xs,v=.ref a/\ba K H a xs/\xs.length=n/\t xs σ H Q
def xv {es:List Expr}{k:Nat}{t:i0}{n:Nat}(hc:X.calm=true) (h:pA X es t)
  (hn:(assignEach es X.env).length=n:=by rfl) (a9:(assignEach es X.env).findIdx? (·.1)=none:=by rfl):PG X (.Tuple es k pos) (xt X.K n t):=by
 intro pins s σ H v u Q I r hw
 obtain ⟨a,xs,e1,hq,hl,hw⟩:=hw
 subst e1
 cases r
 obtain ⟨its,rv,ht,hz⟩:=I.tuple hq
 refine assign_Tuple_tuple (I.ok.hd hc) ht (by simp [hn,<-hl,rv.length]) a9 λh' hx=>?_
 have I1:Inv X pins σ H { s with heap:=h' }:=I.kept (t':=s.toks) λb o e=>hx b o (yD (yh e)) e
 exact h pins _ σ H xs _ Q I1 (by simpa using rv) hw
def Hc (te:TE) (g:TG):TS:=λD σ H=>te σ H λx H1=>g x σ H1 D.nx
def Hd {i:Nat}{x:Str}{e:Expr}{te:TE}{pos':Pos}(hN:X.N.Nodup) (hi:X.N[i]?=some x) (hx:Loc X.env.scope x) (he:PE X e te) (hs:swapsWith e (some (.Name x pos')) pos.line X.env=pure false:=by rfl) (hf:X.fn x=true\/X.env.scope.names.lookup x=some .local:=by first|exact .inl rfl|exact .inr rfl|assumption) :
  PS X (.Assign [.Name x pos'] e pos) (Hc te (wo i)):=by
 intro pins s σ H D I h
 refine wpAny_Assign_Name (aS (he pins s σ H _ I h) λv s1 ⟨y,H1,I1,r1,q1⟩=>?_) hs
 exact lI I1 hN hi hx r1 (λs2 I2=>⟨_,H1,I2,q1⟩) hf
def He (i:Nat) (te:TE) (ti:pB):TS:=λD σ H=>∃x,σ[i]?=some (some x)/\te σ H λy H1=>ti x y H1 λz H2=>D.nx (σ.set i (some z)) H2
def Hf {i:Nat}{x:Str}{e:Expr}{te:TE}{op:Operator}{ti:pB}{pos':Pos}(hN:X.N.Nodup) (hi:X.N[i]?=some x) (hx:Loc X.env.scope x) (he:PE X e te) (ho:rY X op ti) (hf:X.fn x=true\/X.env.scope.names.lookup x=some .local:=by first|exact .inl rfl|exact .inr rfl|assumption) :
  PS X (.AugAssign (.Name x pos') op e pos) (He i te ti):=by
 intro pins s σ H D I h
 obtain ⟨v,e1,h⟩:=h
 obtain ⟨m,hn,hl⟩:=I.loc
 have Hg:mO X.env.scope x:=by rcases hx with k|k;exact .inl k;exact .inr (.inl k)
 obtain ⟨u,r,l⟩:=hl i x v hi e1 Hg
 refine wpAny_AugAssign_Name ?_
 have go:wpAny (model X.prog X.w) X.A (eval e X.env) (λw af=>wpAny (model X.prog X.w) X.A (inplaceOp op u w) (λr aQ=>wpAny (model X.prog X.w) X.A (storeName X.env x r) (λ_=>SP X pins D .next) X.xe aQ) X.xe af) X.xe s:=by
  refine aS (he pins s σ H _ I h) λw s1 ⟨y,H1,I1,r1,q1⟩=>?_
  refine aS (ho pins s1 σ H1 v y u w _ I1 r r1 q1) λz s2 ⟨zv,H2,I2,r2,q2⟩=>?_
  exact lI I2 hN hi hx r2 (λs3 I3=>⟨_,H2,I3,q2⟩) hf
 rcases l with ⟨hk,hm⟩|⟨hk,c,hc,dq⟩
 ·exact wpAny_loadName_local I.ok.kind hk hn hm go
 ·rcases hk with hk|hk
  ·exact wpAny_loadName_cell I.ok.kind hk hc dq go
  ·rcases hx with k|k
   ·have:X.env.scope.names.lookup x=some .free:=hk
    rw [k] at this;cases this
   ·have:X.env.scope.names.lookup x=some .free:=hk
    rw [k] at this;cases this
def Hh (f:Int->Int->Int):pB:=λx y H Q=>∃i j,x=.int i/\y=.int j/\Q (.int (f i j)) H
def Hi:rY X .Add (Hh λi j=>i+j):=by
 intro pins s σ H x y v u Q I r1 r2 h
 obtain ⟨i,j,e1,e2,q⟩:=h
 subst e1;subst e2
 obtain ⟨t,rfl⟩:=r1
 obtain ⟨t',rfl⟩:=r2
 exact iadd_int ⟨.int _,H,I.tok _,⟨_,rfl⟩,q⟩
def Hj (c:TT) (tb:TS):TS:=λD σ H=>∃W:Nat->St->Hp->Prop,(∃m,W m σ H)/\∀m σ H,W m σ H ->
 c σ H λb H1=>if b=true then ∃N:St->Hp->Prop,(∀ah H',N ah H'->∃m',m'<m/\W m' ah H')/\tb { D with nx:=N,ct:=N,bk:=D.nx } σ H1 else D.nx σ H1
def Hk {c:Expr}{body:List Stmt}{tc:TT}{tb:TS}(hp:PassesOwn (model X.prog X.w) X.A X.env X.xe) (hc:PT X c tc) (hb:bS X body tb):PS X (.While c body [] pos) (Hj tc tb):=by
 intro pins s σ H D I h
 obtain ⟨W,⟨m0,w0⟩,turn⟩:=h
 refine wpAny_While (codeAny_whileLoop (λn s'=>∃ah H',Inv X pins ah H' s'/\W n ah H') ?_ m0 ⟨σ,H,I,w0⟩)
 rintro n s1 ⟨aw,H1,I1,w1⟩
 refine wpAny_passesOwn hp (aS (hc pins s1 aw H1 _ I1 (turn n aw H1 w1)) λb s2 ⟨H2,I2,q2⟩=>?_)
 cases b with
 | true =>
  obtain ⟨N,hN,q2⟩:=q2
  rw [zA rfl]
  refine wpAny_passesOwn hp (aS (hb pins s2 aw H2 _ I2 q2) λf s3 q3=>?_)
  cases f with
  | next =>
   obtain ⟨aA,H3,I3,n3⟩:=q3
   obtain ⟨m',hm,w3⟩:=hN aA H3 n3
   exact ⟨m',hm,aA,H3,I3,w3⟩
  | cont =>
   obtain ⟨aA,H3,I3,n3⟩:=q3
   obtain ⟨m',hm,w3⟩:=hN aA H3 n3
   exact ⟨m',hm,aA,H3,I3,w3⟩
  | brk=>exact q3
  | ret v=>exact q3
 | false =>
  rw [zF Bool.false_ne_true]
  exact wpAny_execs_nil ⟨aw,H2,I2,q2⟩
end
structure It where
 go:Nat->Hp->Prop
 yld:Nat->Hp->V->Hp->Prop
 stop:Nat->Hp->Prop
def cD (X:Cx) (pins:Ac) (H:Hp) (b:Addr):Prop :=
 H b=none/\b≠X.env.locals/\b∉X.fs/\(b∈X.ex\/X.s₀.heap.objs.size<=b)/\(∀x c,X.env.cells.lookup x=some c->c≠b)/\∀p∈X.pn++pins,p.1≠b
def Inv.fpOk {X:Cx}{pins:Ac}{σ:St}{H H':Hp}{s:Shared}{b:Addr}(I:Inv X pins σ H s) (hb:s.heap.objs.size<=b) (hn:H' b=none):cD X pins H' b:=by
 refine ⟨hn,Nat.ne_of_gt (je I.lt hb),I.nofs hb,.inr (y8 I.sz hb),λx c e z=>?_,λp hp z=>?_⟩
 ·obtain ⟨v,q⟩:=I.cell x c e
  exact absurd (je q.lt (by rw [z];exact hb)) (Nat.lt_irrefl _)
 ·exact absurd (je (yh (I.pin p hp).1) (by rw [z];exact hb)) (Nat.lt_irrefl _)
structure Turn (P:Program) (w:World) (K:PySem.W.Frag) (tg:Expr) (J:It) (fp:Ae) (it:Addr) (tn:Nat->Heap->Prop):Prop where
 mem:it∈fp
 obj:∀i h,tn i h->∀b∈fp,∃o,h.get? b=some o/\∀v,o.data ≠ .cell v
 keep:∀i h h',tn i h->(∀b∈fp,∀o,h.get? b=some o->h'.get? b=some o)->tn i h'
 item:∀(X:Cx),X.prog=P->X.w=w->X.K=K->X.calm=true->∀(i:Nat) (pins:Ac) (s:Shared) (σ:St) (H:Hp) (E:Aa),Inv X pins σ H s->(∀b∈fp,cD X pins H b)->tn i s.heap->J.go i H ->
  wpAny (model P w) X.A (pyNext (.ref it)) (λr s1=>∃u,r=some u /\
   wpAny (model P w) X.A (letOwnedTupleGo tg (.ref it) u) (λ_ s2=>∃x H',Inv X pins σ H' s2/\RelV x u/\J.yld i H x H'/\tn (i+1) s2.heap/\∀b∈fp,H' b=none) E s1) E s
 done:∀(X:Cx),X.prog=P->X.w=w->X.K=K->X.calm=true->∀(i:Nat) (pins:Ac) (s:Shared) (σ:St) (H:Hp) (E:Aa),Inv X pins σ H s->(∀b∈fp,cD X pins H b)->tn i s.heap->J.stop i H ->
  wpAny (model P w) X.A (pyNext (.ref it)) (λr s1=>r=none/\Inv X pins σ H s1) E s
 self:∀(A:Around) (i:Nat) (s:Shared) (Q:Aa) (E:Aa),tn i s.heap->Q (.ref it) s->wpAny (model P w) A (pyIter (.ref it)) Q E s
abbrev TI:=St->Hp->(It->Hp->Prop)->Prop
def xw (X:Cx) (pins:Ac) (σ:St) (tg:Expr) (R:It->Hp->Prop) (pE:Value) (s2:Shared):Prop :=
 ∃(it:Addr) (fp:Ae) (tn:Nat->Heap->Prop) (J:It) (H':Hp),pE=.ref it/\Inv X pins σ H' s2/\Turn X.prog X.w X.K tg J fp it tn/\tn 0 s2.heap/\(∀b∈fp,cD X pins H' b)/\R J H'
def PI (X:Cx) (tg iter:Expr) (wi:TI):Prop :=
 ∀(pins:Ac) (s:Shared) (σ:St) (H:Hp) (R:It->Hp->Prop),Inv X pins σ H s->wi σ H R ->
  wpAny (model X.prog X.w) X.A (eval iter X.env) (λv s1=>wpAny (model X.prog X.w) X.A (pyIter v) (xw X pins σ tg R) X.xe s1) X.xe s
def lJ {M:Model}{A:Around}{E:Aa}{s:Shared}{tg:Expr}{it:Addr}{u:Value}{o:Obj}{n:String}{vs:Array Value}{Q:Unit->Shared->Prop}(ho:s.heap.get? it=some o) (hc:o.cls=.type n) (hd:o.data=.fields vs)
  (hn:["enumerate", "zip", "dict_itemiterator", "dict_reverseitemiterator", "odict_iterator", "itertools.zip_longest", "itertools.pairwise"].contains n=false) (hQ:Q () s):wpAny M A (letOwnedTupleGo tg (.ref it) u) Q E s:=by
 unfold letOwnedTupleGo
 cases tg<;>first
  | exact zG hQ
  | (cases u<;>first
    | exact zG hQ
    | (refine zl (wpAny_load ho ?_)
       rw [hc,hd]
       show wpAny M A (if (["enumerate", "zip", "dict_itemiterator", "dict_reverseitemiterator", "odict_iterator", "itertools.zip_longest", "itertools.pairwise"].contains n&&vs[0]?==some (rawInt _))=true then _ else _) Q E s
       rw [zF (by intro h;rw [hn,Bool.false_and] at h;cases h)]
       exact zG hQ))
def pF (K:PySem.W.Frag) (a:Addr):It :=
 ⟨λi H=>∃xs x,a4 K H a xs/\xs[i]?=some x,λi H x H'=>H'=H/\∀xs,a4 K H a xs->xs[i]?=some x,λi H=>∃xs,a4 K H a xs/\xs.length<=i⟩
def lK (K:PySem.W.Frag) (a:Addr):It :=
 ⟨λi H=>∃xs x,ba K H a xs/\xs[i]?=some x,λi H x H'=>H'=H/\∀xs,ba K H a xs->xs[i]?=some x,λi H=>∃xs,ba K H a xs/\xs.length<=i⟩
def mS (lo:Int) (n:Nat):It:=⟨λi _=>i<n,λi H x H'=>H'=H/\x=.int (lo+i),λi _=>n<=i⟩
def Hl {P:Program}{w:World}{K:PySem.W.Frag}{tg:Expr}(a it:Addr):Turn P w K tg (pF K a) [it] it (λi h=>h.IsListIter it a i) where
 mem:=by simp
 obj:=λi h st b hb=>by
  have e:b=it:=by simpa using hb
  subst e
  obtain ⟨o,e,c,d⟩:=st
  exact ⟨o,e,λv z=>by rw [d] at z;cases z⟩
 keep:=λi h h' st k=>st.at λo e=>k it (by simp) o e
 item:=by
  intro X hP hw hK hc i pins s σ H E I hf st hg
  subst hP hw hK
  obtain ⟨xs,x,hq,hx⟩:=hg
  obtain ⟨its,rv,p,hz⟩:=I.list hq
  obtain ⟨u,hu,ru⟩:=rv.get hx
  obtain ⟨f0,f1,f2,f3,f4,f5⟩:=hf it (by simp)
  refine wpAny_pyNext_list_item st p.isList (x:=u) (by simpa using hu) λh' bh sb=>?_
  have I1:Inv X pins σ H { s with heap:=h' }:=I.turned (t':=s.toks) (λb o hb e=>(sb.2 b hb).trans e) f0 f1 f3 f4 f5
  obtain ⟨o,e,c,d⟩:=id bh
  exact ⟨u,rfl,lJ (s:={ s with heap:=h' }) e c d (by decide) ⟨x,H,I1,ru,⟨rfl,λys hy=>by rw [I.list_inj hy hq];exact hx⟩,bh,λb hb=>(hf b hb).1⟩⟩
 done:=by
  intro X hP hw hK hc i pins s σ H E I hf st hg
  subst hP hw hK
  obtain ⟨xs,hq,hx⟩:=hg
  obtain ⟨its,rv,p,hz⟩:=I.list hq
  obtain ⟨f0,f1,f2,f3,f4,f5⟩:=hf it (by simp)
  have hl:=rv.length
  exact wpAny_pyNext_list_end (I.ok.hd hc) st p.isList (by simp;omega) λh' eb=>⟨rfl,I.turned (t':=s.toks) (λb o hb e=>eb b o hb e) f0 f1 f3 f4 f5⟩
 self:=λ_ _ _ _ _ st h=>wpAny_pyIter_listiter st h
def Hm {P:Program}{w:World}{K:PySem.W.Frag}{tg:Expr}(a it:Addr):Turn P w K tg (lK K a) [it] it (λi h=>h.IsTupleIter it a i) where
 mem:=by simp
 obj:=λi h st b hb=>by
  have e:b=it:=by simpa using hb
  subst e
  obtain ⟨o,e,c,d⟩:=st
  exact ⟨o,e,λv z=>by rw [d] at z;cases z⟩
 keep:=λi h h' st k=>st.at λo e=>k it (by simp) o e
 item:=by
  intro X hP hw hK hc i pins s σ H E I hf st hg
  subst hP hw hK
  obtain ⟨xs,x,hq,hx⟩:=hg
  obtain ⟨its,rv,p,hz⟩:=I.tuple hq
  obtain ⟨u,hu,ru⟩:=rv.get hx
  obtain ⟨f0,f1,f2,f3,f4,f5⟩:=hf it (by simp)
  refine wpAny_pyNext_tuple_item st (show s.heap.IsTuple a its.toArray from p) (x:=u) (by simpa using hu) λh' bh sb=>?_
  have I1:Inv X pins σ H { s with heap:=h' }:=I.turned (t':=s.toks) (λb o hb e=>(sb.2 b hb).trans e) f0 f1 f3 f4 f5
  obtain ⟨o,e,c,d⟩:=id bh
  exact ⟨u,rfl,lJ (s:={ s with heap:=h' }) e c d (by decide) ⟨x,H,I1,ru,⟨rfl,λys hy=>by rw [I.tuple_inj hy hq];exact hx⟩,bh,λb hb=>(hf b hb).1⟩⟩
 done:=by
  intro X hP hw hK hc i pins s σ H E I hf st hg
  subst hP hw hK
  obtain ⟨xs,hq,hx⟩:=hg
  obtain ⟨its,rv,p,hz⟩:=I.tuple hq
  obtain ⟨f0,f1,f2,f3,f4,f5⟩:=hf it (by simp)
  have hl:=rv.length
  exact wpAny_pyNext_tuple_end (I.ok.hd hc) st (show s.heap.IsTuple a its.toArray from p) (by simp;omega) λh' eb=>⟨rfl,I.turned (t':=s.toks) (λb o hb e=>eb b o hb e) f0 f1 f3 f4 f5⟩
 self:=λ_ _ _ _ _ st h=>wpAny_pyIter_tupleiter st h
def Hn {P:Program}{w:World}{K:PySem.W.Frag}{tg:Expr}(it:Addr) (lo:Int) (n:Nat):Turn P w K tg (mS lo n) [it] it (λi h=>IsRangeIter h it (lo+(i:Nat)*1) ((n:Int)-(i:Nat)) 1) where
 mem:=by simp
 obj:=λi h st b hb=>by
  have e:b=it:=by simpa using hb
  subst e
  exact ⟨_,st,λv z=>by
   have z':Data.fields _=Data.cell v:=z
   cases z'⟩
 keep:=λi h h' st k=>k it (by simp) _ st
 item:=by
  intro X hP hw hK hc i pins s σ H E I hf st hg
  subst hP hw hK
  obtain ⟨f0,f1,f2,f3,f4,f5⟩:=hf it (by simp)
  have W:=Walks.range (prog:=X.prog) (w:=X.w) (I.ok.hd hc) it lo 1 n
  refine W.item i s _ _ hg st λv h' tk hv bh kk=>?_
  obtain ⟨t,rfl⟩:=hv
  have I1:Inv X pins σ H { s with heap:=h',toks:=tk }:=I.turned (λb o hb e=>kk b o (by simpa using hb) e) f0 f1 f3 f4 f5
  refine ⟨_,rfl,lJ (s:={ s with heap:=h',toks:=tk }) (n := "range_iterator") bh rfl rfl (by decide) ⟨.int (lo+i),H,I1,⟨t,?_⟩,⟨rfl,rfl⟩,bh,λb hb=>(hf b hb).1⟩⟩
  rw [Int.mul_one]
 done:=by
  intro X hP hw hK hc i pins s σ H E I hf st hg
  subst hP hw hK
  obtain ⟨f0,f1,f2,f3,f4,f5⟩:=hf it (by simp)
  exact wpAny_pyNext_range_end (I.ok.hd hc) st (by have:n<=i:=hg;omega) λh' eb=>⟨rfl,I.turned (t':=s.toks) (λb o hb e=>eb b o hb e) f0 f1 f3 f4 f5⟩
 self:=λ_ _ _ _ _ st h=>wpAny_pyIter_rangeiter st h
section
variable {X:Cx}{tg:Expr}
def Ho {pins:Ac}{σ:St}{H:Hp}{s:Shared}{R:It->Hp->Prop}{E:Aa}{lo hi:Int}{t u v:Tok}{tk:Nat}(I:Inv X pins σ H s) (h1 : -(2 ^ 62)<=lo) (h2:lo<2 ^ 62) (h3 : -(2 ^ 62)<=hi) (h4:hi<2 ^ 62)
  (q:R (mS lo (hi-lo).toNat) H):wpAny (model X.prog X.w) X.A (pyIter (.ref s.heap.objs.size)) (xw X pins σ tg R) E { s with heap:=s.heap.push { cls:=.type "range", data:=.fields #[.int lo t,.int hi u,.int 1 v] },toks:=tk }:=by
 refine wpAny_pyIter_range (IsRange.new ..) (small_one h1 h2 h3 h4) ?_
 have I1:Inv X pins σ H { s with heap:=s.heap.push { cls:=.type "range", data:=.fields #[.int lo t,.int hi u,.int 1 v] },toks:=tk }:=I.kept λb o e=>z9 _ e
 refine ⟨(s.heap.push { cls:=.type "range", data:=.fields #[.int lo t,.int hi u,.int 1 v] }).objs.size,[(s.heap.push { cls:=.type "range", data:=.fields #[.int lo t,.int hi u,.int 1 v] }).objs.size],_,_,H,rfl,
  I1.kept (t':=tk) λb o e=>z9 _ e,Hn _ lo (hi-lo).toNat,?_,λb hb=>?_,q⟩
 ·have e1:lo+((0:Nat):Int)*1=lo:=by simp
  have e2:(((hi-lo).toNat:Nat):Int)-((0:Nat):Int)=Builtin.Range.rangeSize lo hi 1:=by rw [rangeSize_one];split<;>omega
  show IsRangeIter _ _ (lo+((0:Nat):Int)*1) ((((hi-lo).toNat:Nat):Int)-((0:Nat):Int)) 1
  rw [e1,e2]
  exact yB _ rfl
 ·have e:b=(s.heap.push { cls:=.type "range", data:=.fields #[.int lo t,.int hi u,.int 1 v] }).objs.size:=by simpa using hb
  subst e
  exact I1.fpOk (ya _) (I1.hok.fresh (ya _))
def eP (ta:TA):TI:=fun σ H R=>ta σ H λvs H1=>∃j:Int,vs=[.int j] /\ -(2 ^ 62)<=j/\j<2 ^ 62/\R (mS 0 j.toNat) H1
def r6 (ta:TA):TI:=fun σ H R=>ta σ H λvs H1=>∃i j:Int,vs=[.int i,.int j]/\(-(2 ^ 62)<=i/\i<2 ^ 62 /\ -(2 ^ 62)<=j/\j<2 ^ 62)/\R (mS i (j-i).toNat) H1
def Hq {a:Expr} {ta:TA} {p pos:Pos} (hg:Gl X "range") (hm:X.mg "range" = none) (ha:PA X [a] ta) (hs:starEach [a] X.env=[(false,eval a X.env)]:=by rfl):PI X tg (.Call (.Name "range" p) [a] [] pos) (eP ta):=by
 intro pins s σ H R I h
 refine Call_ (wH I hg hm boot_range (PyProof.Rows.callWith_type1 (aS (ha pos pins s σ H _ I h) λus s1 ⟨vs,H1,I1,r1,q1⟩=>?_) hs rfl))
 obtain ⟨j,e,q1,q2,q⟩:=q1
 subst e
 cases r1 with
 | cons r rr =>
  cases rr
  obtain ⟨t,rfl⟩:=r
  exact call_range_1 (Ho I1 (by omega) (by omega) q1 q2 (by simpa using q))
def Hr (wi:TI) (g:TG) (tb:TS):TS:=λD σ H=>wi σ H λJ H1=>∃W:Nat->Nat->St->Hp->Prop,(∃m,W 0 m σ H1)/\∀i m σ H,W i m σ H ->
 (J.stop i H/\D.nx σ H)\/(J.go i H/\∃N:St->Hp->Prop,(∀ah H',N ah H'->∃m',m'<m/\W (i+1) m' ah H')/\∀x H',J.yld i H x H'->g x σ H' λaE H2=>tb { D with nx:=N,ct:=N,bk:=D.nx } aE H2)
def fq (fp:Ae) (h:Heap):Ac:=fp.filterMap λb=>(h.get? b).map λo=>(b,o)
def mT {fp:Ae}{h:Heap}{b:Addr}{o:Obj}(hb:b∈fp) (e:h.get? b=some o):(b,o)∈fq fp h:=List.mem_filterMap.mpr ⟨b,hb,by rw [e];rfl⟩
def Hs {fp:Ae}{h:Heap}{p:Addr×Obj}(hp:p∈fq fp h):p.1∈fp/\h.get? p.1=some p.2:=by
 obtain ⟨b,hb,e⟩:=List.mem_filterMap.mp hp
 cases q:h.get? b with
 | none=>rw [q] at e;cases e
 | some o =>
  rw [q] at e
  have e':(b,o)=p:=Option.some.inj e
  subst e'
  exact ⟨hb,q⟩
def Inv.pinned {pins:Ac}{σ:St}{H:Hp}{s:Shared}{fp:Ae}(I:Inv X pins σ H s) (hf:∀b∈fp,cD X pins H b) (ho:∀b∈fp,∃o,s.heap.get? b=some o/\∀v,o.data ≠ .cell v):Inv X (pins++fq fp s.heap) σ H s :=
 I.pins_of λp hp=>(mK.mp hp).elim (λz=>I.pin p (yX _ z)) λz=>by
  obtain ⟨hb,e⟩:=Hs z
  obtain ⟨f0,f1,f2,_⟩:=hf p.1 hb
  obtain ⟨o,e',d⟩:=ho p.1 hb
  rw [e] at e';cases e'
  exact ⟨e,f0,f1,f2,d⟩
def Inv.unpinned {pins pl:Ac}{σ:St}{H:Hp}{s:Shared}(I:Inv X (pins++pl) σ H s):Inv X pins σ H s:=I.pins_of λp hp=>I.pin p (yX _ (ly _ hp))
def mU {iter:Expr}{body:List Stmt}{wi:TI}{g:TG}{tb:TS}{pos:Pos}(hp:PassesOwn (model X.prog X.w) X.A X.env X.xe) (hc:X.calm=true) (hi:PI X tg iter wi) (hg:PG X tg g) (hb:bS X body tb)
  (hs:∀x,foldedSetIterable iter X.env x=pure x:=by intro _;rfl):PS X (.For tg iter body [] pos) (Hr wi g tb):=by
 intro pins s σ H D I h
 refine wpAny_For (aS (hi pins s σ H _ I h) λv s1 h1=>aS h1 λpE s2 h2=>?_) hs
 obtain ⟨it,fp,tn,J,H2,e,I2,T,aK,f2,W,⟨m0,w0⟩,turn⟩:=h2
 subst e
 have stat:∀{H':Hp},(∀b∈fp,H' b=none)->∀b∈fp,cD X pins H' b:=λhn b hb=>⟨hn b hb,(f2 b hb).2⟩
 refine codeAny_forLoop_any (λn s'=>∃i ah H',Inv X pins ah H' s'/\tn i s'.heap/\(∀b∈fp,H' b=none)/\W i n ah H') ?_ m0 ⟨0,σ,H2,I2,aK,λb hb=>(f2 b hb).1,w0⟩
 rintro n s3 ⟨i,aA,H3,I3,aX,hG,w3⟩
 rcases turn i n aA H3 w3 with ⟨stop,qn⟩|⟨go,N,hN,step⟩
 ·refine wpAny_passesOwn hp (aS (T.done X rfl rfl rfl hc i pins s3 aA H3 X.xe I3 (stat hG) aX stop) λr s4 ⟨hr,I4⟩=>?_)
  subst hr
  exact wpAny_execs_nil ⟨aA,H3,I4,qn⟩
 ·refine wpAny_passesOwn hp (aS (T.item X rfl rfl rfl hc i pins s3 aA H3 X.xe I3 (stat hG) aX go) λr s4 ⟨u,hr,h4⟩=>?_)
  subst hr
  refine wpAny_passesOwn hp (aS h4 λ_ s5 ⟨x,H5,I5,r5,y5,cU,mV⟩=>?_)
  have mW:=I5.pinned (stat mV) (T.obj _ _ cU)
  refine wpAny_passesOwn hp (aS (hg _ s5 aA H5 x u _ mW r5 (step x H5 y5)) λ_ s6 ⟨aH,H6,I6,q6⟩=>?_)
  refine wpAny_passesOwn hp (aS (hb _ s6 aH H6 _ I6 q6) λf s7 q7=>?_)
  have again:∀{az:St} {H7:Hp},Inv X (pins++fq fp s5.heap) az H7 s7->N az H7->∃m,m<n/\∃i ah H',Inv X pins ah H' s7/\tn i s7.heap/\(∀b∈fp,H' b=none)/\W i m ah H':=λ{az H7} I7 n7=>by
   obtain ⟨m',hm,w7⟩:=hN az H7 n7
   refine ⟨m',hm,i+1,az,H7,I7.unpinned,T.keep _ _ _ cU λb hb o e=>(I7.pin (b,o) (yX _ (yX _ (mT hb e)))).1,λb hb=>?_,w7⟩
   obtain ⟨o,e,d⟩:=T.obj _ _ cU b hb
   exact (I7.pin (b,o) (yX _ (yX _ (mT hb e)))).2.1
  cases f with
  | next=>obtain ⟨az,H7,I7,n7⟩:=q7;exact again I7 n7
  | cont=>obtain ⟨az,H7,I7,n7⟩:=q7;exact again I7 n7
  | brk=>obtain ⟨az,H7,I7,q7⟩:=q7;exact ⟨az,H7,I7.unpinned,q7⟩
  | ret v=>obtain ⟨x7,az,H7,I7,r7,q7⟩:=q7;exact ⟨x7,az,H7,I7.unpinned,r7,q7⟩
end
def fz {K:PySem.W.Frag}{a:Addr}{xs:List V}{g:TG}{tb:TS}{D:Ends}{σ:St}{H:Hp}(Pv:Nat->St->Hp->Prop) (h0:Pv 0 σ H) (hl:∀i σ H,i<=xs.length->Pv i σ H->ba K H a xs)
  (hs:∀i x σ H,xs[i]?=some x->Pv i σ H->g x σ H λaE H2=>tb { D with nx:=Pv (i+1),ct:=Pv (i+1),bk:=D.nx } aE H2) (hd:∀σ H,Pv xs.length σ H->D.nx σ H) :
  ∃W:Nat->Nat->St->Hp->Prop,(∃m,W 0 m σ H)/\∀i m σ H,W i m σ H ->
   ((lK K a).stop i H/\D.nx σ H)\/((lK K a).go i H/\∃N:St->Hp->Prop,(∀ah H',N ah H'->∃m',m'<m/\W (i+1) m' ah H')/\∀x H',(lK K a).yld i H x H'->g x σ H' λaE H2=>tb { D with nx:=N,ct:=N,bk:=D.nx } aE H2):=by
 refine ⟨λi m σ H=>m=xs.length-i/\i<=xs.length/\Pv i σ H,⟨xs.length,by simp,jk _,h0⟩,?_⟩
 rintro i m σ H ⟨rfl,hi,p⟩
 have q:=hl i σ H hi p
 by_cases a7:i<xs.length
 ·refine .inr ⟨⟨xs,xs[i],q,by simp [a7]⟩,Pv (i+1),λah H' p'=>⟨xs.length-(i+1),by omega,rfl,a7,p'⟩,λx H' y=>?_⟩
  obtain ⟨e,y⟩:=y
  subst e
  exact hs i x σ _ (y xs q) p
 ·have e:i=xs.length:=by omega
  subst e
  exact .inl ⟨⟨xs,q,ya _⟩,hd σ H p⟩
abbrev R2:=V->V->Hp->VK->Prop
def bg (X:Cx) (f:Value->Value->Sem Value) (r:R2):Prop :=
 ∀(pins:Ac) (s:Shared) (σ:St) (H:Hp) (x y:V) (v u:Value) (Q:VK),Inv X pins σ H s->RelV x v->RelV y u->r x y H Q ->
  wpAny (model X.prog X.w) X.A (f v u) (EP X pins σ Q) X.xe s
def mX (X:Cx) (f:Value->Sem Value) (r:V->Hp->VK->Prop):Prop :=
 ∀(pins:Ac) (s:Shared) (σ:St) (H:Hp) (x:V) (v:Value) (Q:VK),Inv X pins σ H s->RelV x v->r x H Q ->
  wpAny (model X.prog X.w) X.A (f v) (EP X pins σ Q) X.xe s
def bz (X:Cx) (f:Value) (r:List V->Hp->VK->Prop):Prop :=
 ∀(pins:Ac) (s:Shared) (σ:St) (H:Hp) (xs:List V) (us:Af) (Q:VK),Inv X pins σ H s->Vals xs us->r xs H Q ->
  wpAny (model X.prog X.w) X.A (call f us) (EP X pins σ Q) X.xe s
def mY (r:R2) (ta tb:TE):TE:=fun σ H Q=>ta σ H λx H1=>tb σ H1 λy H2=>r x y H2 Q
def Ht (r:V->Hp->VK->Prop) (ta:TE):TE:=fun σ H Q=>ta σ H λx H1=>r x H1 Q
def rI (C:Int->Int->Prop) (g:Int->Int->V):R2:=λx y H Q=>∃i j,x=.int i/\y=.int j/\C i j/\Q (g i j) H
def wS (g:Int->Int->V):R2:=λx y H Q=>∃i j,x=.int i/\y=.int j/\Q (g i j) H
def rU (g:Int->V):V->Hp->VK->Prop:=λx H Q=>∃i,x=.int i/\Q (g i) H
section
variable {X:Cx}{a b c:Expr}{ta tb tc:TE}{pos:Pos}
def mZ (ha:PE X a ta) (hb:PE X b tb) {pins:Ac}{s:Shared}{σ:St}{H:Hp}{R:V->V->Hp->Prop}(I:Inv X pins σ H s)
  (h:ta σ H λx H1=>tb σ H1 λy H2=>R x y H2) {Q:Aa} {f:Value->Value->Sem Value}
  (hf:∀v u s2 x y H2,Inv X pins σ H2 s2->RelV x v->RelV y u->R x y H2->wpAny (model X.prog X.w) X.A (f v u) Q X.xe s2) :
  wpAny (model X.prog X.w) X.A (eval a X.env) (λv ak=>wpAny (model X.prog X.w) X.A (eval b X.env) (λu af=>wpAny (model X.prog X.w) X.A (f v u) Q X.xe af) X.xe ak) X.xe s:=by
 refine aS (ha pins s σ H _ I h) λv s1 ⟨x,H1,I1,r1,q1⟩=>?_
 refine aS (hb pins s1 σ H1 _ I1 q1) λu s2 ⟨y,H2,I2,r2,q2⟩=>?_
 exact hf v u s2 x y H2 I2 r1 r2 q2
def Hu {op:Operator}{r:R2}(ho:bg X (binaryOp op) r) (ha:PE X a ta) (hb:PE X b tb):PE X (.BinOp a op b pos) (mY r ta tb):=by
 intro pins s σ H Q I h
 exact wpAny_BinOp (mZ ha hb I h λv u s2 x y H2 I2 rx ry q=>ho pins s2 σ H2 x y v u Q I2 rx ry q)
def Hv {op:UnaryOp}{r:V->Hp->VK->Prop}(ho:mX X (unaryOp op) r) (ha:PE X a ta):PE X (.UnaryOp op a pos) (Ht r ta):=by
 intro pins s σ H Q I h
 exact UnaryOp_ (aS (ha pins s σ H _ I h) λv s1 ⟨x,H1,I1,r1,q1⟩=>ho pins s1 σ H1 x v Q I1 r1 q1)
def opI {f:Value->Value->Sem Value}{C:Int->Int->Prop}{g:Int->Int->Int}
  (rule:∀(i j:Int) (t u:Tok) (s:Shared) (Q:Aa) (E:Aa),C i j->Q (.int (g i j) s.toks) { s with toks:=s.toks+1 }->wpAny (model X.prog X.w) X.A (f (.int i t) (.int j u)) Q E s) :
  bg X f (rI C λi j=>.int (g i j)):=by
 intro pins s σ H x y v u Q I rx ry h
 obtain ⟨i,j,rfl,rfl,hc,q⟩:=h
 obtain ⟨t,rfl⟩:=rx
 obtain ⟨t',rfl⟩:=ry
 exact rule i j t t' s _ _ hc ⟨.int (g i j),H,I.tok _,⟨_,rfl⟩,q⟩
def xx {f:Value->Value->Sem Value}{g:Int->Int->Int}
  (rule:∀(i j:Int) (t u:Tok) (s:Shared) (Q:Aa) (E:Aa),Q (.int (g i j) s.toks) { s with toks:=s.toks+1 }->wpAny (model X.prog X.w) X.A (f (.int i t) (.int j u)) Q E s) :
  bg X f (wS λi j=>.int (g i j)):=by
 intro pins s σ H x y v u Q I rx ry h
 obtain ⟨i,j,rfl,rfl,q⟩:=h
 obtain ⟨t,rfl⟩:=rx
 obtain ⟨t',rfl⟩:=ry
 exact rule i j t t' s _ _ ⟨.int (g i j),H,I.tok _,⟨_,rfl⟩,q⟩
def r8 {f:Value->Value->Sem Value}{g:Int->Int->Bool}
  (rule:∀(i j:Int) (t u:Tok) (s:Shared) (Q:Aa) (E:Aa),Q (.bool (g i j)) s->wpAny (model X.prog X.w) X.A (f (.int i t) (.int j u)) Q E s) :
  bg X f (wS λi j=>.bl (g i j)):=by
 intro pins s σ H x y v u Q I rx ry h
 obtain ⟨i,j,rfl,rfl,q⟩:=h
 obtain ⟨t,rfl⟩:=rx
 obtain ⟨t',rfl⟩:=ry
 exact rule i j t t' s _ _ ⟨.bl (g i j),H,I,rfl,q⟩
def xy (i j:Int):Prop:=0<=j/\j<=1000000/\i.natAbs<2 ^ 64
def k8 (i j:Int):Prop:=(-(2 ^ 64)<i/\i<2 ^ 64)\/(-(2 ^ 64)<j/\j<2 ^ 64)
def k8.ok {i j:Int}(h:k8 i j):IntMulOk i j:=by
 rcases h with ⟨h1,h2⟩|⟨h1,h2⟩
 ·exact .of_left (intBits_le_64 h1 h2)
 ·exact .of_right (intBits_le_64 h1 h2)
def gq:bg X (binaryOp .Add) (wS λi j=>.int (i+j)):=xx λ_ _ _ _ _ _ _ q=>add_int q
def gr:bg X (binaryOp .Sub) (wS λi j=>.int (i-j)):=xx λ_ _ _ _ _ _ _ q=>sub_int q
def gu:bg X (binaryOp .Mult) (rI k8 λi j=>.int (i*j)):=opI λ_ _ _ _ _ _ _ hc q=>mul_int q hc.ok
def Hw:bg X (binaryOp .Mod) (rI (λ_ j=>j≠0) λi j=>.int (i.fmod j)):=opI λ_ _ _ _ _ _ _ hc q=>mod_int' hc q
def Hx:bg X (binaryOp .Pow) (rI xy λi j=>.int (i ^ j.toNat)):=opI λ_ _ _ _ _ _ _ hc q=>pow_int_small hc.1 hc.2.1 hc.2.2 q
def Hy {f:Value->Sem Value}{g:Int->Int}
  (rule:∀(i:Int) (t:Tok) (s:Shared) (Q:Aa) (E:Aa),Q (.int (g i) s.toks) { s with toks:=s.toks+1 }->wpAny (model X.prog X.w) X.A (f (.int i t)) Q E s) :
  mX X f (rU λi=>.int (g i)):=by
 intro pins s σ H x v Q I rx h
 obtain ⟨i,rfl,q⟩:=h
 obtain ⟨t,rfl⟩:=rx
 exact rule i t s _ _ ⟨.int (g i),H,I.tok _,⟨_,rfl⟩,q⟩
def Hz:mX X (unaryOp .USub) (rU λi=>.int (-i)):=Hy λ_ _ _ _ _ q=>neg_int q
def r9 {pins:Ac}{σ:St}{H:Hp}{s:Shared}{Q:VK}{k k':Bool}(I:Inv X pins σ H s) (q:Q (.bl k) H) (e:k=k'):EP X pins σ Q (.bool k') s:=by
 subst e
 exact ⟨.bl k,H,I,rfl,q⟩
def HB:bg X (compareOp .Lt) (wS λi j=>.bl (decide (i<j))):=r8 λ_ _ _ _ _ _ _ q=>lt_int q
def HC:bg X (compareOp .Gt) (wS λi j=>.bl (decide (j<i))):=r8 λ_ _ _ _ _ _ _ q=>gt_int q
def HD:bg X (compareOp .GtE) (wS λi j=>.bl (decide (j<=i))):=r8 λ_ _ _ _ _ _ _ q=>ge_int q
def HE:bg X (compareOp .In) (λx y H Q=>∃i j,x=.str i/\y=.str j/\Q (.bl (!(Builtin.Str.occurrences j i 0 j.length 1).isEmpty)) H):=by
 intro pins s σ H x y v u Q I rx ry h
 obtain ⟨i,j,rfl,rfl,q⟩:=h
 obtain ⟨t,rfl⟩:=rx
 obtain ⟨t',rfl⟩:=ry
 exact in_str (r9 I q rfl)
def HF:bg X (compareOp .Is) (λx y H Q=>y=.non/\Q (.bl (decide (x=.non))) H):=by
 intro pins s σ H x y v u Q I rx ry h
 obtain ⟨rfl,q⟩:=h
 cases ry
 refine is_none_gen (r9 I q ?_)
 cases x<;>first
  | (cases rx;rfl)
  | (obtain ⟨t,rfl⟩:=rx;rfl)
def HG:bg X (compareOp .IsNot) (λx y H Q=>y=.non/\Q (.bl (!decide (x=.non))) H):=by
 intro pins s σ H x y v u Q I rx ry h
 obtain ⟨rfl,q⟩:=h
 cases ry
 refine isnot_none_gen (r9 I q ?_)
 cases x<;>first
  | (cases rx;rfl)
  | (obtain ⟨t,rfl⟩:=rx;rfl)
def bg.or {f:Value->Value->Sem Value}{r r':R2}(h:bg X f r) (h':bg X f r'):bg X f (λx y H Q=>r x y H Q\/r' x y H Q):=by
 intro pins s σ H x y v u Q I rx ry q
 rcases q with q|q
 ·exact h pins s σ H x y v u Q I rx ry q
 ·exact h' pins s σ H x y v u Q I rx ry q
def k9 (b:Expr) {op:CmpOp}(h:op ≠ .In:=by decide) (h2:op ≠ .NotIn:=by decide):behindInMarks op b=false:=by
 have e1:(op==CmpOp.In)=false:=by cases op<;>first|rfl|exact absurd rfl h
 have e2:(op==CmpOp.NotIn)=false:=by cases op<;>first|rfl|exact absurd rfl h2
 cases b<;>simp [behindInMarks,e1,e2]
def HH {op:CmpOp}{r:R2}(ho:bg X (compareOp op) r) (ha:PE X a ta) (hb:PE X b tb) (hm:behindInMarks op b=false):PE X (.Compare a [op] [b] pos) (mY r ta tb):=by
 intro pins s σ H Q I h
 exact wpAny_Compare1 (mZ ha hb I h λv u s2 x y H2 I2 rx ry q=>ho pins s2 σ H2 x y v u Q I2 rx ry q) hm
def HI (t:TE):TT:=fun σ H Q=>t σ H λx H'=>∃k,x=.bl k/\Q k H'
def xA {op:CmpOp}{r:R2}(ho:bg X (compareOp op) r) (ha:PE X a ta) (hb:PE X b tb) (hm:behindInMarks op b=false):PT X (.Compare a [op] [b] pos) (HI (mY r ta tb)):=by
 intro pins s σ H Q I h
 refine wpAny_isTrue_Compare1 (aS (ha pins s σ H _ I h) λv s1 ⟨x,H1,I1,r1,q1⟩=>aS (hb pins s1 σ H1 _ I1 q1) λu s2 ⟨y,H2,I2,r2,q2⟩ =>
  aS (ho pins s2 σ H2 x y v u _ I2 r1 r2 q2) λc s3 ⟨z,H3,I3,r3,k,e,q3⟩=>?_) hm
 subst e
 cases r3
 exact wC ⟨H3,I3,q3⟩
def xB (r r':R2) (ta tb tc:TE):TE:=fun σ H Q=>ta σ H λx H1=>tb σ H1 λy H2=>r x y H2 λz H3=>∃k,z=.bl k /\
 (if k=true then tc σ H3 λw' H4=>r' y w' H4 Q else Q (.bl false) H3)
def HJ {op di:CmpOp}{r r':R2}(ho:bg X (compareOp op) r) (ho':bg X (compareOp di) r') (ha:PE X a ta) (hb:PE X b tb) (hc:PE X c tc)
  (hm:lastMarks [op,di] [b,c]=false:=by with_unfolding_all rfl):PE X (.Compare a [op,di] [b,c] pos) (xB r r' ta tb tc):=by
 intro pins s σ H Q I h
 refine Compare_chain (aS (ha pins s σ H _ I h) λv s1 ⟨x,H1,I1,r1,q1⟩=>chain_link (aS (hb pins s1 σ H1 _ I1 q1) λu s2 ⟨y,H2,I2,r2,q2⟩ =>
  aS (ho pins s2 σ H2 x y v u _ I2 r1 r2 q2) λd s3 ⟨z,H3,I3,r3,k,e,q3⟩=>?_)) hm
 subst e
 cases r3
 refine wC ?_
 cases k with
 | false=>exact ite_ff ⟨.bl false,H3,I3,rfl,q3⟩
 | true=>exact ite_tt (chain_last (aS (hc pins s3 σ H3 _ I3 q3) λw' s4 ⟨z',H4,I4,r4,q4⟩=>ho' pins s4 σ H4 y z' u w' Q I4 r2 r4 q4))
def pG:(sizeLine:Nat)<2 ^ 63:=by rw [sizeLine_eq];decide
def HK:bg X (binaryOp .Add) (λx y H Q=>∃i j,x=.str i/\y=.str j/\i.length+j.length<=sizeLine/\Q (.str (i++j)) H):=by
 intro pins s σ H x y v u Q I rx ry h
 obtain ⟨i,j,rfl,rfl,hz,q⟩:=h
 obtain ⟨t,rfl⟩:=rx
 obtain ⟨t',rfl⟩:=ry
 exact add_str (λt' tk=>⟨.str (i++j),H,I.tok _,⟨_,rfl⟩,q⟩) hz
def wI {x:V}{us:Af}(r:Vals [x] us):∃u,us=[u]/\RelV x u:=by
 cases r with
 | cons r1 r2=>cases r2;exact ⟨_,rfl,r1⟩
def xC {x y:V}{us:Af}(r:Vals [x,y] us):∃u w',us=[u,w']/\RelV x u/\RelV y w':=by
 cases r with
 | cons r1 r2 =>
  cases r2 with
  | cons r3 r4=>cases r4;exact ⟨_,_,rfl,r1,r3⟩
def HL:bz X (.builtin "abs") (λxs H Q=>∃i,xs=[.int i]/\Q (.int (if i<0 then -i else i)) H):=by
 intro pins s σ H xs us Q I r h
 obtain ⟨i,rfl,q⟩:=h
 obtain ⟨u,rfl,t,rfl⟩:=wI r
 exact call_abs_int λu tk=>⟨.int (if i<0 then -i else i),H,I.tok _,⟨_,rfl⟩,q⟩
def HM:bz X (.type "int") (λxs H Q=>(∃i,xs=[.int i]/\Q (.int i) H)\/∃k,xs=[.bl k]/\Q (.int (if k then 1 else 0)) H):=by
 intro pins s σ H xs us Q I r h
 rcases h with ⟨i,rfl,q⟩|⟨k,rfl,q⟩
 ·obtain ⟨u,rfl,t,rfl⟩:=wI r
  exact call_int_int ⟨.int i,H,I,⟨_,rfl⟩,q⟩
 ·obtain ⟨u,rfl,r1⟩:=wI r
  cases r1
  exact call_int_bool ⟨.int (if k then 1 else 0),H,I.tok _,⟨_,rfl⟩,q⟩
def HN:bz X (.type "str") (λxs H Q=>∃i,xs=[.int i]/\i.natAbs.log2<1920/\Q (.str (toString i)) H):=by
 intro pins s σ H xs us Q I r h
 obtain ⟨i,rfl,hz,q⟩:=h
 obtain ⟨u,rfl,t,rfl⟩:=wI r
 exact PySem.P.str_of_int hz ⟨.str _,H,I.tok _,⟨_,rfl⟩,q⟩
def xD (K:PySem.W.Frag) (x:V) (H:Hp) (n:Nat):Prop :=
 match x with
 | .str y=>y.length<=sizeLine/\n=y.length
 | .byt y=>y.size<=sizeLine/\n=y.size
 | .ref p=>(∃xs,a4 K H p xs/\n=xs.length)\/∃xs,ba K H p xs/\n=xs.length
 | _=>False
def HP:bz X (.builtin "len") (λxs H Q=>∃x n,xs=[x]/\xD X.K x H n/\Q (.int n) H):=by
 intro pins s σ H xs us Q I r h
 obtain ⟨x,n,rfl,e,q⟩:=h
 obtain ⟨u,rfl,rx⟩:=wI r
 have hl:=pG
 have hs:sizeLine=16777216:=sizeLine_eq
 cases x with
 | str y =>
  obtain ⟨t,rfl⟩:=rx
  obtain ⟨hy,e'⟩:y.length<=sizeLine/\n=y.length:=e
  subst e'
  exact len_str (by omega) ⟨.int _,H,I.tok _,⟨_,rfl⟩,q⟩
 | byt y =>
  obtain ⟨t,rfl⟩:=rx
  obtain ⟨hy,e'⟩:y.size<=sizeLine/\n=y.size:=e
  subst e'
  exact PySem.W.len_bytes (by omega) ⟨.int _,H,I.tok _,⟨_,rfl⟩,q⟩
 | ref p =>
  cases rx
  have e':(∃xs,a4 X.K H p xs/\n=xs.length)\/∃xs,ba X.K H p xs/\n=xs.length:=e
  rcases e' with ⟨xs,hx,e'⟩|⟨xs,hx,e'⟩
  ·subst e'
   obtain ⟨its,r',pl,hz⟩:=I.list hx
   have hlen:=r'.length
   exact Calls.call_len_list pl.isList (by simp only [yR];omega) ⟨.int xs.length,H,I.tok _,⟨_,by simp only [yR];rw [hlen]⟩,q⟩
  ·subst e'
   obtain ⟨its,r',pl,hz⟩:=I.tuple hx
   have hlen:=r'.length
   exact len_tuple pl (by simp only [yR];omega) ⟨.int xs.length,H,I.tok _,⟨_,by simp only [yR];rw [hlen]⟩,q⟩
 | _=>exact (show False from e).elim
end
structure fA (h:Heap) (x dx C:Addr) (mA:Ab):Prop where
 obj:h.get? x=some (PySem.W.instObj C dx)
 ns:h.Ns1 dx mA
 ne:dx≠x
def xE {h:Heap}{dx:Addr}{mA:Ab}(n:h.Ns1 dx mA):∃od,h.get? dx=some od/\∀name,PySem.W.lookIn name od=some (mA name):=by
 obtain ⟨o,es,ep,ho,hd,hk,_,hm⟩:=n
 refine ⟨o,ho,λname=>?_⟩
 have e:=hm name
 unfold nsFind findBy at e
 rw [<-Array.find?_toList] at e
 unfold PySem.W.lookIn
 rw [hd]
 dsimp only
 split
 ·rename_i y q
  rw [q] at e
  exact congrArg some e
 ·rename_i q
  rw [q] at e
  have a:es.toList.any (·.refKey)=false:=by
   rw [List.any_eq_false]
   intro y hy
   obtain ⟨z,t,gg⟩:=hk y (Array.mem_toList_iff.mp hy)
   simp [DictEntry.refKey,gg]
  have a':¬es.toList.any (·.refKey)=true:=by rw [a];exact Bool.false_ne_true
  rw [zF a']
  exact congrArg some e
def fA.look {h:Heap}{x dx C:Addr}{mA:Ab}(I:fA h x dx C mA):∃od,PySem.W.InstAt h x (PySem.W.instObj C dx) C (some od)/\∀name,PySem.W.lookIn name od=some (mA name) :=
 let ⟨od,ho,hl⟩:=xE I.ns
 ⟨od,⟨I.obj,rfl,rfl,ho⟩,hl⟩
section
variable {prog:Program}{w:World}{A:Around}{E:Aa}{s:Shared}{K:PySem.W.Frag}{x dx C f:Addr}{mA:Ab}{name:Str}{v:Value}
def HQ {expr:Bool}{Q:Aa}(X:K.In s.heap) (I:fA s.heap x dx C mA) (hg:PySem.W.plainGet K C name=true) (hh:PySem.W.hasDictIn K C=true)
  (ha:PySem.W.findIn K (.ref C) name=some none) (hv:mA name=some v) (pH:PySem.W.handedIn v=true) (h:Q v { s with toks:=s.toks+1 }) :
  wpAny (model prog w) A (getAttr (.ref x) name expr) Q E s:=by
 obtain ⟨od,J,hl⟩:=I.look
 exact PySem.W.get_value X J (PySem.W.plainGet_of hg).1 (PySem.W.findObj_own hh ha rfl (by rw [hl,hv])) pH h
def HR {pl:Sem Bool}{Q:Value×List Value->Shared->Prop}(X:K.In s.heap) (I:fA s.heap x dx C mA) (hg:PySem.W.plainGet K C name=true)
  (hf:PySem.W.findIn K (.ref C) name=some (some (.ref f))) (ht:PySem.W.isFn K (.ref f)=true) (hv:mA name=none) (h:Q (.ref f,[.ref x]) s) :
  wpAny (model prog w) A (getMethod (.ref x) name pl) Q E s:=by
 obtain ⟨od,J,hl⟩:=I.look
 exact PySem.W.method_fn X J (PySem.W.plainGet_of hg).1 (PySem.W.plainGet_of hg).2 hf (beq_iff_eq.mp ht) (by show (PySem.W.lookIn name od).map (·.isSome)=some false;rw [hl,hv];rfl) h
def HS {ns:Ad}{Q:Unit->Shared->Prop}(X:K.In s.heap) (I:fA s.heap x dx C mA)
  (hs:PySem.W.findIn K (.ref C) "__setattr__" = some (some (.builtin "object.__setattr__"))) (hp:PySem.W.plainOver K C=true) (ht:PySem.W.takerIn K C name=some none) (hh:PySem.W.hasDictIn K C=true)
  (hw:PySem.Within mA ns) (hsz:ns.length<=sizeLine)
  (h:∀h',fA h' x dx C (λy=>if y=name then some v else mA y)->Heap.SameBut dx s.heap h'->Q () { s with heap:=h',toks:=s.toks+2 }) :
  wpAny (model prog w) A (setAttr (.ref x) name v) Q E s:=by
 obtain ⟨od,J,hl⟩:=I.look
 refine PySem.W.set_plain X J hs (PySem.W.osa_open (s:={ s with toks:=s.toks+1 }) (r:=none) X J hp ht λb=>?_)
 obtain ⟨cd,hc,eO⟩:=PySem.W.any_some hh
 have hx:s.heap.get? x=some ⟨.ref C,some dx,.plain,#[]⟩:=I.obj
 refine zl (zG (zl (zl (wpAny_loadPart hx (zl (PySem.W.Looks.here (s:={ s with toks:=s.toks+1 }) (PySem.W.looks_clsIn X hc) ?_))))))
 rw [eO]
 refine zG (a:=some dx) (zl (zG (zl ?_)))
 refine wpAny_nsSet1 (s:={ s with toks:=s.toks+1 }) I.ns λh' du dW=>?_
 obtain ⟨oD,HU,HV,se,sf,sg⟩:=du.count (PySem.Within.cons name v hw)
 refine zl (wpAny_lookBehind se (by rw [sf];exact pastItsLine_dict (y8 sg (by rw [wF];omega))) ?_)
 exact zG (h _ ⟨(dW.2 _ (yw I.ne)).trans I.obj,du,I.ne⟩ dW)
def HW {R:Result->Shared->Prop}{vs:Af}{kw:List (Str×Value)}(X:K.In s.heap) (hm:PySem.W.makesIn K C=true)
  (hi:PySem.W.findIn K (.ref C) "__init__" = some (some (.ref f))) (hf:PySem.W.typeIn K (.ref f)=some (.type "function"))
  (h:codeAny (model prog w) (A.under (.builtin "type.__call__" ⟨.ref C::vs,kw⟩)) (.call (.ref f) ⟨.ref (s.heap.objs.size+1)::vs,kw⟩) (PySem.W.InitBack (s.heap.objs.size+1) R)
   { s with heap:=(s.heap.push PySem.W.emptyDict).push (PySem.W.instObj C s.heap.objs.size) }) :
  codeAny (model prog w) A (.call (.ref C) ⟨vs,kw⟩) R s:=by
 obtain ⟨hh,g,d,t,os⟩:=s
 exact PySem.W.make_core (PySem.W.makes_of X hm) (PySem.W.looks_findIn X hi) (λself=>PySem.W.bind_fn X self hf) (.inl rfl) h
end
def bU (f:Str) (v:V):List (Str×V)->List (Str×V)
 | []=>[(f,v)]
 | (g,x)::r=>if g=f then (g,v)::r else (g,x)::bU f v r
def xF (f g:Str) (v:V):∀fs:List (Str×V),(bU f v fs).lookup g=if g=f then some v else fs.lookup g
 | []=>by
  show List.lookup g [(f,v)]=_
  by_cases h:g=f
  ·have hb:(g==f)=true:=beq_iff_eq.mpr h
   simp only [List.lookup,hb,zA h]
  ·have hb:(g==f)=false:=beq_eq_false_iff_ne.mpr h
   simp only [List.lookup,hb,zF h]
 | (k,x)::r=>by
  have ih:=xF f g v r
  rw [show bU f v ((k,x)::r)=(if k=f then (k,v)::r else (k,x)::bU f v r) from rfl]
  by_cases hk:k=f
  ·rw [zA hk]
   by_cases h:g=k
   ·have hb:(g==k)=true:=beq_iff_eq.mpr h
    simp only [List.lookup,hb,zA (h.trans hk)]
   ·have hb:(g==k)=false:=beq_eq_false_iff_ne.mpr h
    simp only [List.lookup,hb,zF (λe:g=f=>h (e.trans hk.symm))]
  ·rw [zF hk]
   by_cases h:g=k
   ·have hb:(g==k)=true:=beq_iff_eq.mpr h
    simp only [List.lookup,hb,zF (λe:g=f=>hk (h.symm.trans e))]
   ·have hb:(g==k)=false:=beq_eq_false_iff_ne.mpr h
    simp only [List.lookup,hb]
    exact ih
def sh (f:Str) (v:V):∀fs:List (Str×V),f∈(bU f v fs).map (·.1)/\∀g,g∈fs.map (·.1)->g∈(bU f v fs).map (·.1)
 | []=>⟨by simp [bU],λg h=>by simp at h⟩
 | (k,x)::r=>by
  obtain ⟨i1,i2⟩:=sh f v r
  rw [show bU f v ((k,x)::r)=(if k=f then (k,v)::r else (k,x)::bU f v r) from rfl]
  by_cases hk:k=f
  ·rw [zA hk]
   subst hk
   exact ⟨by simp,λg h=>by simpa using h⟩
  ·rw [zF hk]
   refine ⟨?_,λg h=>?_⟩
   ·rw [jB]
    exact jh _ i1
   ·rw [jB] at h ⊢
    rcases yL.mp h with e|e
    ·exact yL.mpr (.inl e)
    ·exact jh _ (i2 g e)
def xG (f:Str) (v:V):∀fs:List (Str×V),(bU f v fs).length<=fs.length+1
 | []=>by simp [bU]
 | (k,x)::r=>by
  have ih:=xG f v r
  rw [show bU f v ((k,x)::r)=(if k=f then (k,v)::r else (k,x)::bU f v r) from rfl]
  by_cases hk:k=f
  ·rw [zA hk,wF,wF];omega
  ·rw [zF hk,wF,wF];omega
def bF.some_of {v:V}{o:Option Value}(r:bF (some v) o):∃u,o=some u/\RelV v u:=by
 cases o with
 | none=>exact (show False from r).elim
 | some u=>exact ⟨u,rfl,r⟩
def bF.none_of {o:Option Value}(r:bF none o):o=none:=by
 cases o with
 | none=>rfl
 | some u=>exact (show False from r).elim
def xH {v:V}{u:Value}(r:RelV v u):PySem.W.handedIn u=true:=by
 cases v with
 | non=>cases (show u=Value.none from r);rfl
 | bl b=>cases (show u=Value.bool b from r);rfl
 | int i=>obtain ⟨t,e⟩:=(show ∃t,u=Value.int i t from r);cases e;rfl
 | str x=>obtain ⟨t,e⟩:=(show ∃t,u=Value.str x t from r);cases e;rfl
 | byt b=>obtain ⟨t,e⟩:=(show ∃t,u=Value.bytes b t from r);cases e;rfl
 | flt b=>obtain ⟨t,e⟩:=(show ∃t,u=Value.float b t from r);cases e;rfl
 | ref a=>cases (show u=Value.ref a from r);rfl
 | ty n=>cases (show u=Value.type n from r);rfl
section
variable {P:Program}{w:World}{H H':Hp}{h h':Heap}{a C dx:Addr}{fs Gr:List (Str×V)}
def pI (hok:bH P w H h) (e:H a=some (.ins C dx fs)):∃mA,fA h a dx C mA/\(∀f,bF (fs.lookup f) (mA f))/\PySem.Within mA (fs.map (·.1))/\fs.length<=1000/\H dx=some (.own a):=by
 obtain ⟨d,z,ne,ob,mA,n,r,q⟩:=(show aZ P w H h a (.ins C dx fs) from hok a _ e)
 exact ⟨mA,⟨ob,n,ne⟩,r,q,z,d⟩
end
structure dY (K:PySem.W.Frag) (C:Addr):Prop where
 pg:PySem.W.plainGet K C Str.empty=true
 hd:PySem.W.hasDictIn K C=true
 po:PySem.W.plainOver K C=true
 sa:PySem.W.findIn K (.ref C) "__setattr__" = some (some (.builtin "object.__setattr__"))
def dY.get {K:PySem.W.Frag}{C:Addr}(c:dY K C) (f:Str):PySem.W.plainGet K C f=true:=c.pg
def cN (K:PySem.W.Frag) (C:Addr) (f:Str):Prop:=PySem.W.findIn K (.ref C) f=some none
def cN.taker {K:PySem.W.Frag}{C:Addr}{f:Str}(n:cN K C f):PySem.W.takerIn K C f=some none:=by
 unfold PySem.W.takerIn
 rw [show PySem.W.findIn K (.ref C) f=some none from n]
 rfl
structure VB (K:PySem.W.Frag) (C:Addr) (f:Str) (v:V) (u:Value):Prop where
 at_:PySem.W.findIn K (.ref C) f=some (some u)
 rel:RelV v u
 get:PySem.W.specialIn K u "__get__" = some none
 cp:PySem.W.copiedNames.contains f=false
structure Meth (K:PySem.W.Frag) (C:Addr) (m:Str) (f:Addr):Prop where
 at_:PySem.W.findIn K (.ref C) m=some (some (.ref f))
 fn:PySem.W.isFn K (.ref f)=true
 kp:PySem.W.keepIn K (.ref f)=true
section
variable {X:Cx}{pins:Ac}{σ:St}{H:Hp}{s:Shared}{a C dx:Addr}{fs:List (Str×V)}{f:Str}{v:V}{A:Around}{E:Aa}
def HX {b:Bool}{Q:Aa}(I:Inv X pins σ H s) (e:H a=some (.ins C dx fs)) (c:dY X.K C) (n:cN X.K C f) (l:fs.lookup f=some v)
  (h:∀u s',Inv X pins σ H s'->RelV v u->Q u s'):wpAny (model X.prog X.w) A (getAttr (.ref a) f b) Q E s:=by
 obtain ⟨mA,O,r,_,_,_⟩:=pI I.hok e
 obtain ⟨u,hu,ru⟩:=bF.some_of (v:=v) (o:=mA f) (by rw [<-l];exact r f)
 exact HQ I.kIn O (c.get f) c.hd n hu (xH ru) (h u _ (I.tok _) ru)
def xI {m:Str}{g:Addr}{pl:Sem Bool}{Q:Value×List Value->Shared->Prop}(I:Inv X pins σ H s) (e:H a=some (.ins C dx fs)) (c:dY X.K C) (k:Meth X.K C m g) (l:fs.lookup m=none)
  (h:Q (.ref g,[.ref a]) s):wpAny (model X.prog X.w) A (getMethod (.ref a) m pl) Q E s:=by
 obtain ⟨mA,O,r,_,_,_⟩:=pI I.hok e
 have hn:mA m=none:=bF.none_of (by rw [<-l];exact r m)
 exact HR I.kIn O (c.get m) k.at_ k.fn hn h
def HY {y:V}{u:Value}{Q:Unit->Shared->Prop}(I:Inv X pins σ H s) (e:H a=some (.ins C dx fs)) (c:dY X.K C) (n:cN X.K C f) (hl:fs.length<1000) (ry:RelV y u)
  (h:∀s',Inv X pins σ (upd H a (.ins C dx (bU f y fs))) s'->Q () s'):wpAny (model X.prog X.w) A (setAttr (.ref a) f u) Q E s:=by
 obtain ⟨mA,O,r,wi,_,ho⟩:=pI I.hok e
 have hz:(fs.map (·.1)).length<=sizeLine:=by rw [jV,sizeLine_eq];omega
 refine HS I.kIn O c.sa c.po n.taker c.hd wi hz λh' O' sb=>h _ ?_
 have hd:∃o,h'.get? dx=some o:=let ⟨o,_,_,e',_⟩:=O'.ns;⟨o,e'⟩
 refine I.write (x:=a) (e:=dx) (by rw [e];exact True.intro) (.inr ho) (λb q hb z=>(sb.2 b hb).trans z) hd ?_
 refine ⟨by rw [zM O.ne];exact ho,?_,O.ne,O'.obj,_,O'.ns,λg=>?_,λg hg=>?_⟩
 ·have:=xG f y fs;omega
 ·show bF ((bU f y fs).lookup g) (if g=f then some u else mA g)
  rw [xF]
  by_cases q:g=f
  ·rw [zA q,zA q];exact ry
  ·rw [zF q,zF q];exact r g
 ·by_cases q:g=f
  ·rw [q];exact (sh f y fs).1
  ·refine (sh f y fs).2 g (wi g λz=>hg ?_)
   show (if g=f then some u else mA g)=none
   rw [zF q];exact z
def Inv.made (I:Inv X pins σ H s):Inv X pins σ (upd (upd H s.heap.objs.size (.own (s.heap.objs.size+1))) (s.heap.objs.size+1) (.ins C s.heap.objs.size []))
  { s with heap:=(s.heap.push PySem.W.emptyDict).push (PySem.W.instObj C s.heap.objs.size) }:=by
 have e1:(s.heap.push PySem.W.emptyDict).get? s.heap.objs.size=some PySem.W.emptyDict:=yB s.heap rfl
 have e2:((s.heap.push PySem.W.emptyDict).push (PySem.W.instObj C s.heap.objs.size)).get? (s.heap.objs.size+1)=some (PySem.W.instObj C s.heap.objs.size):=by
  have:=yB (s.heap.push PySem.W.emptyDict) (o:=PySem.W.instObj C s.heap.objs.size) rfl
  rwa [Heap.size_push] at this
 have e3:(s.heap.push PySem.W.emptyDict).Ns s.heap.objs.size (λ_=>none):=⟨PySem.W.emptyDict,#[],_,e1,rfl,(λe he=>absurd he (by simp)),λ_=>rfl⟩
 have I1:=I.laid (a:=s.heap.objs.size) (o:=.own (s.heap.objs.size+1)) (h':=s.heap.push PySem.W.emptyDict) (t':=s.toks) (λb u q=>z9 _ q) (ya _) ⟨_,e1⟩
 refine I1.laid (a:=s.heap.objs.size+1) (o:=.ins C s.heap.objs.size []) (t':=s.toks) (λb u q=>z9 _ q) (Nat.le_of_eq (Heap.size_push _ _)) ?_
 have ne:s.heap.objs.size≠s.heap.objs.size+1:=yD (jP _)
 refine ⟨by rw [zM ne,yC],jk _,ne,e2,λ_=>none,(Heap.Ns1.of_empty e3).at λo q=>z9 _ q,λ_=>True.intro,λy hy=>absurd rfl hy⟩
def HZ {prog:Program}{w:World}{env:Env}{e:Expr}{f:Str}{pos:Pos}{s:Shared}{Q:Aa}(hb:attributeBase e f env (eval e env)=eval e env)
  (h:wpAny (model prog w) A (eval e env) (λo ak=>wpAny (model prog w) A (getAttr o f true) Q E ak) E s):wpAny (model prog w) A (eval (.Attribute e f pos) env) Q E s :=
 Attribute_any_ h (by rw [arm_eval_Attribute,hb])
end
def sFld (K:PySem.W.Frag) (ta tv:TE) (f:Str):TS:=λD σ H=>tv σ H λy H1=>ta σ H1 λx H2=>∃a C dx fs,x=.ref a/\H2 a=some (.ins C dx fs)/\dY K C/\cN K C f/\fs.length<1000 /\
 D.nx σ (upd H2 a (.ins C dx (bU f y fs)))
section
variable {X:Cx}{o e value:Expr}{f:Str}{pos pos' xJ:Pos}{ta tv:TE}
def H8 (ha:PE X o ta) (hv:PE X value tv) (hs:swapsWith value (some (.Attribute o f pos')) pos.line X.env=pure false):PS X (.Assign [.Attribute o f pos'] value pos) (sFld X.K ta tv f):=by
 intro pins s σ H D I h
 refine plainObj_wpAny_Assign_Attribute (aS (hv pins s σ H _ I h) λu s1 ⟨y,H1,I1,ry,q⟩=>aS (ha pins s1 σ H1 _ I1 q) λov s2 ⟨x,H2,I2,rx,a,C,dx,fs,ex,ea,c,n,l,q2⟩=>?_) hs
 subst ex
 obtain rfl:ov=Value.ref a:=rx
 exact HY I2 ea c n l ry λs3 I3=>⟨σ,_,I3,q2⟩
end
section
variable {X:Cx}{pins:Ac}{σ:St}{H:Hp}{s:Shared}{A:Around}{E:Aa}{Q:Aa}{c:Value}{b:Bool}
inductive cW (K:PySem.W.Frag) (H:Hp):V->Value->Prop where
 | non:cW K H .non (.type "NoneType")
 | bl (x:Bool):cW K H (.bl x) (.type "bool")
 | int (i:Int):cW K H (.int i) (.type "int")
 | str (x:Str):cW K H (.str x) (.type "str")
 | flt (x:UInt64):cW K H (.flt x) (.type "float")
 | lst {a:Addr} {xs:List V} (e:H a=some (.lst xs)):cW K H (.ref a) (.type "list")
 | frz {a:Addr} {o:Obj} {xs:List V} (e:H a=some (.frz o (.lst xs))):cW K H (.ref a) (.type "list")
 | tup {a:Addr} {xs:List V} (e:H a=some (.tup xs)):cW K H (.ref a) (.type "tuple")
 | dK {a:Addr} {kvs:List (Key×V)} (e:H a=some (.dK kvs)):cW K H (.ref a) (.type "dict")
 | dT {a:Addr} {kvs:List (List Key×V)} (e:H a=some (.dT kvs)):cW K H (.ref a) (.type "dict")
 | ins {a C dx:Addr} {fs:List (Str×V)} (e:H a=some (.ins C dx fs)) (cl:dY K C) (ha:PySem.W.findIn K (.ref C) "__class__" = some (some (.builtin "object.__class__")))
   (hn:PySem.W.specialIn K (.builtin "object.__class__") "__get__" = some (some (.builtin "getset_descriptor.__get__"))) (xK:PySem.W.takesIn K (.builtin "object.__class__")=some true)
   (hm:PySem.W.mroIn K C (.type "object")=some true):cW K H (.ref a) (.ref C)
def H9 {x:V}{u t:Value}(I:Inv X pins σ H s) (rx:RelV x u) (ty:cW X.K H x t) (e:PySem.W.kitOne X.K t c=some b) (h:∀tk,Q (.bool b) { s with toks:=tk }) :
  wpAny (model X.prog X.w) A (call (.builtin "isinstance") [u,c]) Q E s:=by
 cases ty with
 | non=>cases (show u=Value.none from rx);exact PySem.W.kia_one PySem.W.kitx_none I.kIn True.intro e (λz=>nomatch z) h
 | bl y=>cases (show u=Value.bool y from rx);exact PySem.W.kia_one PySem.W.kitx_bool I.kIn True.intro e (λz=>nomatch z) h
 | int i=>obtain ⟨t,q⟩:=(show ∃t,u=Value.int i t from rx);cases q;exact PySem.W.kia_one PySem.W.kitx_int I.kIn True.intro e (λz=>nomatch z) h
 | str y=>obtain ⟨t,q⟩:=(show ∃t,u=Value.str y t from rx);cases q;exact PySem.W.kia_one PySem.W.kitx_str I.kIn True.intro e (λz=>nomatch z) h
 | flt y=>obtain ⟨t,q⟩:=(show ∃t,u=Value.float y t from rx);cases q;exact PySem.W.kia_one PySem.W.kitx_float I.kIn True.intro e (λz=>nomatch z) h
 | @lst a xs ea =>
  cases (show u=Value.ref a from rx)
  obtain ⟨_,_,n,_,h1⟩:=(show aZ X.prog X.w H s.heap a (.lst xs) from I.hok a _ ea)
  exact PySem.W.kia_one PySem.W.kitx_list I.kIn ⟨_,h1,rfl⟩ e (λz=>nomatch z) h
 | @frz a ob xs ea =>
  cases (show u=Value.ref a from rx)
  obtain ⟨_,_,_,n,_,h1⟩:=(show aZ X.prog X.w H s.heap a (.frz ob (.lst xs)) from I.hok a _ ea)
  exact PySem.W.kia_one PySem.W.kitx_list I.kIn ⟨_,h1,rfl⟩ e (λz=>nomatch z) h
 | @tup a xs ea =>
  cases (show u=Value.ref a from rx)
  obtain ⟨_,_,_,p⟩:=(show aZ X.prog X.w H s.heap a (.tup xs) from I.hok a _ ea)
  obtain ⟨o,h1,h2,_⟩:=p
  exact PySem.W.kia_one PySem.W.kitx_tuple I.kIn ⟨o,h1,h2⟩ e (λz=>nomatch z) h
 | @dK a kvs ea =>
  cases (show u=Value.ref a from rx)
  obtain ⟨_,_,vs,_,p⟩:=(show aZ X.prog X.w H s.heap a (.dK kvs) from I.hok a _ ea)
  obtain ⟨o,es,ep,h1,h2,_⟩:=p
  exact PySem.W.kia_one PySem.W.kitx_dict I.kIn ⟨o,h1,h2.1⟩ e (λz=>nomatch z) h
 | @dT a kvs ea =>
  cases (show u=Value.ref a from rx)
  obtain ⟨_,_,xs,_,o,es,ep,h1,h2,_⟩:=(show aZ X.prog X.w H s.heap a (.dT kvs) from I.hok a _ ea)
  exact PySem.W.kia_one PySem.W.kitx_dict I.kIn ⟨o,h1,h2.1⟩ e (λz=>nomatch z) h
 | @ins a C dx fs ea cl ha hn xK hm =>
  cases (show u=Value.ref a from rx)
  obtain ⟨mA,O,_⟩:=pI I.hok ea
  obtain ⟨od,J,_⟩:=O.look
  exact PySem.W.kia_one (PySem.W.kitx_own (cl.get _) cl.hd ha hn xK hm) I.kIn J e (λz=>nomatch z) h
end
structure aY (k:Nat) (A:Around):Prop where
 hd:A.handled=none
 dp:A.depth+3*k+5<recursionLimit
 un:A.units+16*k+200<cLine
def aY.mono {j k:Nat}{A:Around}(r:aY k A) (h:j<=k):aY j A:=⟨r.hd,by have:=r.dp;omega,by have:=r.un;omega⟩
def aY.deeper {k:Nat}{A:Around}(r:aY (k+1) A) (env:Env):aY k (A.deeper env) :=
 ⟨r.hd,by have:=r.dp;show A.depth+1+3*k+5<_;omega,by have:=r.un;show A.units+3+16*k+200<_;omega⟩
def aY.in1 {k:Nat}{A:Around}(r:aY (k+1) A):aY k A.in1 :=
 ⟨r.hd,by have:=r.dp;show A.depth+3*k+5<_;omega,by have:=r.un;show A.units+1+16*k+200<_;omega⟩
def H_ {A:Around} {C:Addr} {us:Af} {kw:List (Str×Value)}:(A.under (.builtin "type.__call__" ⟨.ref C::us,kw⟩)).depth=A.depth+1:=by
 first|rfl|simp [Around.under,Code.weight,Code.isCreation,Code.isGuard,Code.isCaller,Code.frames,Code.isFrame,guardIds]
def Ia {A:Around} {C:Addr} {us:Af} {kw:List (Str×Value)}:(A.under (.builtin "type.__call__" ⟨.ref C::us,kw⟩)).units=A.units+1:=by
 first|rfl|simp [Around.under,Code.cUnits,Code.frames,Code.isFrame]
def aY.make {k:Nat} {A:Around} (r:aY (k+1) A) (C:Addr) (us:Af) (kw:List (Str×Value)):aY k (A.under (.builtin "type.__call__" ⟨.ref C::us,kw⟩)) :=
 ⟨r.hd,by have:=r.dp;rw [H_];omega,by have:=r.un;rw [Ia];omega⟩
def aY.depth {k:Nat}{A:Around}(r:aY k A):A.depth<recursionLimit:=by have:=r.dp;omega
def aY.units {k:Nat}{A:Around}(r:aY k A):A.units+64<cLine:=by have:=r.un;omega
def Ib:TA:=λ_ H Q=>Q [] H
def Ic (ta:TE) (tr:TA):TA:=fun σ H Q=>ta σ H λx H1=>tr σ H1 λxs H2=>Q (x::xs) H2
section
variable {X:Cx}{e:Expr}{es:List Expr}{te:TE}{t:TA}{pos:Pos}
def pJ:PA X [] Ib:=λ_ _ _ _ H Q I h=>Calls.spliced_nil ⟨[],H,I,.nil,h⟩
def pK (ha:PE X e te) (hr:PA X es t) (hs:starEach (e::es) X.env=(false,eval e X.env)::starEach es X.env:=by rfl):PA X (e::es) (Ic te t):=by
 intro pos pins s σ H Q I h
 rw [hs]
 show wpAny _ _ (spliced ((false,eval e X.env)::backTo pos (starEach es X.env))) _ _ s
 refine Calls.spliced_cons (aS (ha pins s σ H _ I h) λu s1 ⟨x,H1,I1,r1,q1⟩=>?_)
 exact aS (hr pos pins s1 σ H1 _ I1 q1) λus s2 ⟨xs,H2,I2,r2,q2⟩=>⟨x::xs,H2,I2,.cons r1 r2,q2⟩
def Ie (t:TA):TE:=fun σ H Q=>t σ H λxs H1=>xs.length<=sizeLine/\∀p,H1 p=none->Q (.ref p) (upd H1 p (.tup xs))
def Ig (t:TA):TE:=fun σ H Q=>t σ H λxs H1=>xs.length<=sizeLine/\∀p,H1 p=none->Q (.ref p) (upd H1 p (.lst xs))
def Ih {x1}(h:PA X es t):PE X (.Tuple es x1 pos) (Ie t):=by
 intro pins s σ H Q I hq
 refine wpAny_Tuple_spliced (aS (h pos pins s σ H _ I hq) λus s1 ⟨xs,H1,I1,r,z,q⟩=>⟨by rw [<-r.length];exact z,?_⟩)
 have hf:H1 s1.heap.objs.size=none:=I1.hok.fresh (ya _)
 refine ⟨.ref s1.heap.objs.size,upd H1 s1.heap.objs.size (.tup xs),I1.laid (t':=s1.toks) (λb u e=>z9 _ e) (ya _) ?_,rfl,q _ hf⟩
 exact ⟨z,us,r,⟨_,yB _ rfl,rfl,_,rfl⟩⟩
def Ii (h:PA X es t):PE X (.List es pos) (Ig t):=by
 intro pins s σ H Q I hq
 refine wpAny_List_spliced (aS (h pos pins s σ H _ I hq) λus s1 ⟨xs,H1,I1,r,z,q⟩=>⟨by rw [<-r.length];exact z,?_⟩)
 have hf:H1 s1.heap.objs.size=none:=I1.hok.fresh (ya _)
 refine ⟨.ref s1.heap.objs.size,upd H1 s1.heap.objs.size (.lst xs),I1.laid (t':=s1.toks) (λb u e=>z9 _ e) (ya _) ?_,rfl,q _ hf⟩
 exact ⟨z,us,0,r,yB _ rfl⟩
end
abbrev Sp:=List V->Hp->VK->XK->Prop
abbrev dj:=List Env->Hp->Shared->XK->Aa
structure dR (P:Program) (w:World) (K:PySem.W.Frag) (mg:Ab) (base:Heap) (A:Around) (outer:List Env) (s:Shared) (H:Hp):Prop where
 frames:A.frames=some outer
 mod:Mod K mg base
 bs:∀b o,base.get? b=some o->s.heap.get? b=some o/\H b=none
 bsz:base.objs.size<=s.heap.objs.size
 funs:s.heap.FunFrames base outer
 frf:∀b∈cA outer,H b=none
 hok:bH P w H s.heap
 bare:AllBare s.gens
def CE (outer:List Env) (P:Program) (w:World) (H:Hp) (s:Shared) (Q:VK) (u:Value) (s':Shared):Prop :=
 ∃v H',s'.os=s.os/\AllBare s'.gens/\Un (cA outer) [] H H' s.heap s'.heap/\bH P w H' s'.heap/\RelV v u/\Q v H'
def CR (CX:dj) (outer:List Env) (P:Program) (w:World) (H:Hp) (s:Shared) (Q:VK) (E:XK) (r:Result) (s':Shared):Prop :=
 match r with
 | .ok (.ret u)=>CE outer P w H s Q u s'
 | .ok _=>False
 | .error e=>CX outer H s E e s'
structure a_ (P:Program) (w:World) (K:PySem.W.Frag) (mg:Ab) (base:Heap) (CX:dj) (k:Nat) (f:Addr) (fd:FuncData) (ps:Ad) (sp:Sp):Prop where
 len:∀vs H Q E,sp vs H Q E->vs.length=ps.length
 run:∀(A:Around) (outer:List Env) (s:Shared) (H:Hp) (args:Args) (us:Af) (vs:List V) (Q:VK) (E:XK),aY k A->dR P w K mg base A outer s H->BindsTo s fd args (ps.zip us)->Vals vs us->sp vs H Q E ->
  codeAny (model P w) A (.call (.ref f) args) (CR CX outer P w H s Q E) s
def a_.mono {P:Program}{w:World}{K:PySem.W.Frag}{mg:Ab}{base:Heap}{CX:dj}{j k:Nat}{f:Addr}{fd:FuncData}{ps:Ad}{sp:Sp}(F:a_ P w K mg base CX j f fd ps sp) (h:j<=k) :
  a_ P w K mg base CX k f fd ps sp:=⟨F.len,λA outer s H args us vs Q E hr=>F.run A outer s H args us vs Q E (hr.mono h)⟩
def a_.imp {P:Program}{w:World}{K:PySem.W.Frag}{mg:Ab}{base:Heap}{CX:dj}{k:Nat}{f:Addr}{fd:FuncData}{ps:Ad}{sp xM:Sp}(F:a_ P w K mg base CX k f fd ps sp)
  (h:∀vs H Q E,xM vs H Q E->sp vs H Q E):a_ P w K mg base CX k f fd ps xM :=
 ⟨λvs H Q E q=>F.len vs H Q E (h _ _ _ _ q),λA outer s H args us vs Q E hr he hb hv hs=>F.run A outer s H args us vs Q E hr he hb hv (h _ _ _ _ hs)⟩
def dR.make {P:Program}{w:World}{K:PySem.W.Frag}{mg:Ab}{base:Heap}{A:Around}{outer:List Env}{s:Shared}{H:Hp}(e:dR P w K mg base A outer s H) (C:Addr) (us:Af) (kw:List (Str×Value)) :
  dR P w K mg base (A.under (.builtin "type.__call__" ⟨.ref C::us,kw⟩)) outer s H:=⟨by first|exact e.frames|(simpa [Around.under,Code.envs,Code.isFrame,pushEnvs] using e.frames),e.mod,e.bs,e.bsz,e.funs,e.frf,e.hok,e.bare⟩
def dR.in1 {P:Program}{w:World}{K:PySem.W.Frag}{mg:Ab}{base:Heap}{A:Around}{outer:List Env}{s:Shared}{H:Hp}(e:dR P w K mg base A outer s H) :
  dR P w K mg base A.in1 outer s H:=⟨e.frames,e.mod,e.bs,e.bsz,e.funs,e.frf,e.hok,e.bare⟩
section
variable {X:Cx}{pins:Ac}{σ:St}{H:Hp}{s s':Shared}
def Inv.env0 (I:Inv X pins σ H s):dR X.prog X.w X.K X.mg X.base X.A X.stack s H :=
 ⟨I.ok.frames,I.ok.mod,I.bs,y8 I.ok.bsz I.sz,I.stack,I.stkFree,I.hok,I.bare⟩
def Inv.after {Q:VK}{u:Value}(I:Inv X pins σ H s) (h:CE X.stack X.prog X.w H s Q u s'):EP X pins σ Q u s':=by
 obtain ⟨v,H',os,bare,un,hok,r,q⟩:=h
 obtain ⟨hh,g,d,t,Ij⟩:=s'
 obtain rfl:Ij=s.os:=os
 exact ⟨v,H',I.call (h':=hh) (g':=g) (d':=d) (t':=t) (ch:=[]) un hok bare (λb z=>absurd z (by simp)),r,q⟩
end
def Ik (sp:Sp) (cX:List V) (E:XK) (t:TA):TE:=fun σ H Q=>t σ H λvs H1=>sp (vs++cX) H1 Q E
def Il (C:Addr) (sp:Sp) (cX:List V) (E:XK) (t:TA):TE:=fun σ H Q=>t σ H λvs H1=>∀x dx,H1 x=none->H1 dx=none->dx≠x ->
 sp (.ref x::(vs++cX)) (upd (upd H1 dx (.own x)) x (.ins C dx [])) (λv H2=>v=.non/\Q (.ref x) H2) E
def Binds (K:PySem.W.Frag) (fd:FuncData) (ps:Ad) (ds:Af):Prop :=
 ∀(s:Shared) (us:Af),K.In s.heap->(us++ds).length=ps.length->BindsTo s fd ⟨us,[]⟩ (ps.zip (us++ds))
def Binds.all {K:PySem.W.Frag}{fd:FuncData}{ps:Ad}(h:∀us:Af,us.length=ps.length->bindArgs fd ⟨us,[]⟩=pure (ps.zip us)):Binds K fd ps []:=λs us _ hl=>by
 rw [List.append_nil] at hl ⊢
 exact .of_eq (h us hl)
def Passes (CX:dj) (X:Cx) (E:XK):Prop:=∀(pins:Ac) (σ:St) (H:Hp) (s:Shared) (e:Value) (s':Shared),Inv X pins σ H s->CX X.stack H s E e s'->X.xe e s'
section
variable {X:Cx}{CX:dj}{k:Nat}{f C:Addr}{fd:FuncData}{ps:Ad}{sp:Sp}{cX:List V}{ds:Af}{E:XK}{x m:Str}{p pos apos:Pos}{e o:Expr}{es:List Expr}{ta:TE}{t:TA}
def si {pins:Ac}{σ:St}{H:Hp}{s:Shared}{Q:VK}{us:Af}{vs:List V}(F:a_ X.prog X.w X.K X.mg X.base CX k f fd ps sp) (hr:aY k X.A) (hb:Binds X.K fd ps ds) (hd:Vals cX ds) (hx:Passes CX X E)
  (I:Inv X pins σ H s) (r:Vals vs us) (h:sp (vs++cX) H Q E):wpAny (model X.prog X.w) X.A (call (.ref f) us) (EP X pins σ Q) X.xe s:=by
 have r2:Vals (vs++cX) (us++ds):=r.append hd
 have hl:(us++ds).length=ps.length:=by rw [<-r2.length];exact F.len _ _ _ _ h
 refine wpAny_call (codeAny_mono (F.run X.A X.stack s H ⟨us,[]⟩ (us++ds) (vs++cX) Q E hr I.env0 (hb s us I.kIn hl) r2 h) λr s' hq=>?_)
 cases r with
 | error e=>exact hx pins σ H s e s' I hq
 | ok fl =>
  cases fl with
  | ret u=>exact I.after hq
  | next=>exact hq.elim
  | brk=>exact hq.elim
  | cont=>exact hq.elim
def Im (F:a_ X.prog X.w X.K X.mg X.base CX k f fd ps sp) (hr:aY k X.A) (hg:Gl X x) (hm:X.mg x=some (.ref f)) (hk:PySem.W.keepIn X.K (.ref f)=true) (hb:Binds X.K fd ps ds) (hd:Vals cX ds) (hx:Passes CX X E)
  (ha:PA X (e::es) t) (cf:(x==("__debug__" : Str))=false:=by decide) (he:starEach (e::es) X.env=(false,eval e X.env)::starEach es X.env:=by rfl) (bp:(backTo pos (starEach es X.env)).any (·.1)=false:=by rfl) :
  PE X (.Call (.Name x p) (e::es) [] pos) (Ik sp cX E t):=by
 intro pins s σ H Q I h
 refine wpAny_Call_Name_kw (mR I hg hm ?_ cf)
 refine PySem.W.callWith_K (h₀:=X.base) I.ok.mod.kin hk (aS (ha pos pins s σ H _ I h) λus s1 ⟨vs,H1,I1,r,q⟩=>⟨I1.kIn,?_⟩) he bp
 exact si F hr hb hd hx I1 r q
structure Mk (K:PySem.W.Frag) (C f:Addr):Prop where
 makes:PySem.W.makesIn K C=true
 init:PySem.W.findIn K (.ref C) "__init__" = some (some (.ref f))
 fn:PySem.W.isFn K (.ref f)=true
 kp:PySem.W.keepIn K (.ref C)=true
def Io {pins:Ac}{σ:St}{H:Hp}{s:Shared}{Q:VK}{us:Af}{vs:List V}(M:Mk X.K C f) (F:a_ X.prog X.w X.K X.mg X.base CX k f fd ps sp) (hr:aY (k+1) X.A) (hb:Binds X.K fd ps ds) (hd:Vals cX ds)
  (hx:Passes CX X E) (I:Inv X pins σ H s) (r:Vals vs us)
  (h:∀x dx,H x=none->H dx=none->dx≠x->sp (.ref x::(vs++cX)) (upd (upd H dx (.own x)) x (.ins C dx [])) (λv H2=>v=.non/\Q (.ref x) H2) E) :
  wpAny (model X.prog X.w) X.A (call (.ref C) us) (EP X pins σ Q) X.xe s:=by
 have hq:=h (s.heap.objs.size+1) s.heap.objs.size (I.hok.fresh (Nat.le_succ _)) (I.hok.fresh (ya _)) (yD (jP _))
 have I2:=Inv.made (C:=C) I
 have r2:Vals (V.ref (s.heap.objs.size+1)::(vs++cX)) (Value.ref (s.heap.objs.size+1)::(us++ds)):=.cons rfl (r.append hd)
 have hl:(Value.ref (s.heap.objs.size+1)::us++ds).length=ps.length:=by
  have e:=r2.length
  rw [F.len _ _ _ _ hq] at e
  exact e.symm
 refine wpAny_call (HW (f:=f) I.kIn M.makes M.init (beq_iff_eq.mp M.fn) (codeAny_mono (F.run _ X.stack _ _ ⟨Value.ref (s.heap.objs.size+1)::us,[]⟩ (Value.ref (s.heap.objs.size+1)::(us++ds)) _ _ E (hr.make C us [])
  (I2.env0.make C us []) (hb _ (Value.ref (s.heap.objs.size+1)::us) I2.kIn hl) r2 hq) λr s' hq'=>?_))
 cases r with
 | error e=>exact hx pins σ _ _ e s' I2 hq'
 | ok fl =>
  cases fl with
  | ret u =>
   obtain ⟨v,H',I3,rv,ev,q3⟩:=I2.after hq'
   subst ev
   exact ⟨rv,⟨V.ref (s.heap.objs.size+1),H',I3,rfl,q3⟩⟩
  | next=>exact hq'.elim
  | brk=>exact hq'.elim
  | cont=>exact hq'.elim
def Ip (M:Mk X.K C f) (F:a_ X.prog X.w X.K X.mg X.base CX k f fd ps sp) (hr:aY (k+1) X.A) (hg:Gl X x) (hm:X.mg x=some (.ref C)) (hb:Binds X.K fd ps ds) (hd:Vals cX ds) (hx:Passes CX X E)
  (ha:PA X (e::es) t) (cf:(x==("__debug__" : Str))=false:=by decide) (he:starEach (e::es) X.env=(false,eval e X.env)::starEach es X.env:=by rfl) (bp:(backTo pos (starEach es X.env)).any (·.1)=false:=by rfl) :
  PE X (.Call (.Name x p) (e::es) [] pos) (Il C sp cX E t):=by
 intro pins s σ H Q I h
 refine wpAny_Call_Name_kw (mR I hg hm ?_ cf)
 refine PySem.W.callWith_K (h₀:=X.base) I.ok.mod.kin M.kp (aS (ha pos pins s σ H _ I h) λus s1 ⟨vs,H1,I1,r,q⟩=>⟨I1.kIn,?_⟩) he bp
 exact Io M F hr hb hd hx I1 r q
end
section
variable {X:Cx}{CX:dj}{k:Nat}{f C:Addr}{fd:FuncData}{ps ks:Ad}{sp:Sp}{E:XK}{x m:Str}{p pos apos Vv:Pos}{e o:Expr}{es:List Expr}{VC:List Keyword}{te ta:TE}{t tk:TA}{nm:Option Str}
structure Gb (K:PySem.W.Frag) (fd:FuncData) (ps ks:Ad) (g:List Value->List Value->Af) (gV:List V->List V->List V):Prop where
 to:∀(s:Shared) (us ws:Af),K.In s.heap->(g us ws).length=ps.length->BindsTo s fd ⟨us,ks.zip ws⟩ (ps.zip (g us ws))
 rel:∀{vs:List V} {us:Af} {zs:List V} {ws:Af},Vals vs us->Vals zs ws->Vals (gV vs zs) (g us ws)
variable {g:List Value->List Value->Af}{gV:List V->List V->List V}
end
structure ax (N P:Ad) (sc:Scope):Prop where
 kind:sc.kind=.function
 co:sc.isCoroutine=false
 gen:sc.isGenerator=false
 nd:N.Nodup
 pre:N.take P.length=P
 par:∀x∈P,sc.names.lookup x=some .local\/sc.names.lookup x=some .cell
 nofree:∀y∈sc.names,y.2 ≠ .free
def xN {kindOf:Str->Option NameKind}{x:Str}:∀{binds:List (Str×Value)}{m:Ab},(∀v,(x,v)∉binds)->bindL kindOf binds m x=m x
 | [],_,_=>rfl
 | (n,v)::r,m,h=>by
  unfold bindL
  rw [xN λw hw=>h w (jh _ hw)]
  split
  ·have:x≠n:=by rintro rfl;exact h v y3
   simp [this]
  ·rfl
def xO {kindOf:Str->Option NameKind}{x:Str}:∀{binds:List (Str×Value)}{m:Ab},(∀v,(x,v)∉binds)->bindC kindOf binds m x=m x
 | [],_,_=>rfl
 | (n,v)::r,m,h=>by
  unfold bindC
  rw [xO λw hw=>h w (jh _ hw)]
  split
  ·rfl
  ·have:x≠n:=by rintro rfl;exact h v y3
   simp [this]
def xP {kindOf:Str->Option NameKind}{x:Str}{v:Value}:∀{P:Ad}{vs:Af}{i:Nat}{m:Ab},P.Nodup->P[i]?=some x->vs[i]?=some v->kindOf x=some .local ->
  bindL kindOf (P.zip vs) m x=some v
 | [],_,_,_,_,h,_,_=>by simp at h
 | _::_,[],_,_,_,_,h,_=>by simp at h
 | p::P,w::vs,0,m,nd,h1,h2,hk=>by
  simp at h1 h2;subst h1;subst h2
  show bindL kindOf ((p,w)::P.zip vs) m p=_
  unfold bindL
  rw [xN λv hv=>(jC.mp nd).1 (List.of_mem_zip hv).1,zA hk]
  simp
 | p::P,w::vs,i+1,m,nd,h1,h2,hk=>by
  show bindL kindOf ((p,w)::P.zip vs) m x=_
  unfold bindL
  exact xP (i:=i) (jC.mp nd).2 (by simpa using h1) (by simpa using h2) hk
def xQ {kindOf:Str->Option NameKind}{x:Str}{v:Value}:∀{P:Ad}{vs:Af}{i:Nat}{m:Ab},P.Nodup->P[i]?=some x->vs[i]?=some v->kindOf x≠some .local ->
  bindC kindOf (P.zip vs) m x=some v
 | [],_,_,_,_,h,_,_=>by simp at h
 | _::_,[],_,_,_,_,h,_=>by simp at h
 | p::P,w::vs,0,m,nd,h1,h2,hk=>by
  simp at h1 h2;subst h1;subst h2
  show bindC kindOf ((p,w)::P.zip vs) m p=_
  unfold bindC
  rw [xO λv hv=>(jC.mp nd).1 (List.of_mem_zip hv).1,zF hk]
  simp
 | p::P,w::vs,i+1,m,nd,h1,h2,hk=>by
  show bindC kindOf ((p,w)::P.zip vs) m x=_
  unfold bindC
  exact xQ (i:=i) (jC.mp nd).2 (by simpa using h1) (by simpa using h2) hk
def start (N:Ad) (vs:List V):St:=vs.map some++List.replicate (N.length-vs.length) none
def cY (CX:dj) (P:Program) (w:World) (K:PySem.W.Frag) (mg:Ab) (base:Heap) (N:Ad) (qual:Str) (scope:Scope) (f:Addr) (cd:Value) (A:Around) (outer:List Env) (s:Shared) (H:Hp) (E:XK):Cx where
 prog:=P
 w:=w
 K:=K
 mg:=mg
 base:=base
 A:=A.deeper (envOfC qual scope s.heap.objs.size f cd)
 N:=N
 s₀:=s
 H₀:=H
 env:=envOfC qual scope s.heap.objs.size f cd
 outer:=outer
 stack:=envOfC qual scope s.heap.objs.size f cd::outer
 ex:=[]
 calm:=true
 fn:=λ_=>true
 pn:=[]
 xe:=λe s'=>wpAny (model P w) (A.deeper (envOfC qual scope s.heap.objs.size f cd)) (leaving (envOfC qual scope s.heap.objs.size f cd) e) (λ_ sj=>CX outer H s E e sj) (λe' sj=>CX outer H s E e' sj) s'
def xR {sc:Scope}{n:Nat}{x:Str}(h:sc.names.lookup x=some .cell):∃c,(cellsFrom n sc.names []).lookup x=some c:=by
 have q:=PySem.W.cellsFrom_some sc.names n [] (.inl h)
 exact Option.isSome_iff_exists.mp q
def Iq {CX:dj}{P:Program}{w:World}{K:PySem.W.Frag}{mg:Ab}{base:Heap}{N ps:Ad}{qual:Str}{scope:Scope}{f:Addr}{cd:Value}{A:Around}{outer:List Env}{s s1:Shared}{H:Hp}{E:XK}{us:Af}{vs:List V}
  (S:ax N ps scope) (hd:A.handled=none) (e0:dR P w K mg base A outer s H) (hl:vs.length=ps.length) (r:Vals vs us)
  (x:InCallC s s.heap.objs.size (bindL (envOfC qual scope s.heap.objs.size f cd).kindOf (ps.zip us) λ_=>none) (cellsFrom (s.heap.objs.size+1) scope.names []) (bindC (envOfC qual scope s.heap.objs.size f cd).kindOf (ps.zip us) λ_=>none) s1) :
  Inv (cY CX P w K mg base N qual scope f cd A outer s H E) [] (start N vs) H s1:=by
 have bp:ps.length<=N.length:=by have:=congrArg List.length S.pre;rw [List.length_take] at this;omega
 obtain ⟨h1,tk,rfl,hk⟩:=x.done
 have m3:∀b:Addr,b∉(cY CX P w K mg base N qual scope f cd A outer s H E).ex:=λb z=>absurd (show b∈([]:Ae) from z) (by simp)
 refine ⟨⟨e0.mod,S.kind,rfl,rfl,ya _,λy z c h1 h2=>?_,λy hy=>?_,λy c _ h=>?_,λ_=>hd,Around.frames_deeper e0.frames,.inr ⟨rfl,rfl⟩,λb z=>absurd z (m3 b),e0.bs,e0.bsz,λb _ _=>m3 b,λb z=>absurd z (m3 b),e0.funs,e0.frf⟩,
  rfl,e0.bare,Un.kept hk,⟨_,x.toInCall.ns,λi y v h1 h2 h3=>?_⟩,λy c h=>⟨_,x.cell y c h⟩,e0.hok.fresh (ya _),λy c h=>?_,λp hp=>absurd (show p∈([]:Ac) from hp) (by simp),e0.hok.kept hk,?_⟩
 ·exact name_of_addr x.apart (PySem.mem_of_lookup h1) (PySem.mem_of_lookup h2)
 ·have hy:scope.names.lookup y=some .cell\/scope.names.lookup y=some .free:=hy
  rcases hy with hy|hy
  ·exact xR hy
  ·exact absurd rfl (S.nofree _ (PySem.mem_of_lookup hy))
 ·exact Nat.le_of_lt (x.above y c (PySem.mem_of_lookup h))
 ·have hi:i<vs.length:=by
   unfold start at h2
   by_cases hi:i<vs.length
   ·exact hi
   ·rw [iW (by simpa using hi)] at h2
    rw [List.getElem?_replicate] at h2
    split at h2<;>cases h2
  have ha:vs[i]?=some v:=by
   unfold start at h2
   rw [g8 (by simpa using hi),jr] at h2
   cases e:vs[i]? with
   | none=>rw [e] at h2;cases h2
   | some a=>rw [e] at h2;cases h2;rfl
  obtain ⟨u,hu,rv⟩:=r.get ha
  have hp:ps[i]?=some y:=by
   rw [<-S.pre,List.getElem?_take_of_lt (by omega)];exact h1
  have xS:ps.Nodup:=by rw [<-S.pre];exact S.nd.sublist (List.take_sublist _ _)
  refine ⟨u,rv,?_⟩
  rcases S.par y (lC hp) with k|k
  ·exact .inl ⟨k,xP xS hp hu k⟩
  ·obtain ⟨c,e⟩:=xR (n:=s.heap.objs.size+1) k
   refine .inr ⟨.inl k,c,e,?_⟩
   have q:=x.cell y c e
   rw [xQ xS hp hu (by show scope.names.lookup y≠_;rw [k];decide)] at q
   exact q
 ·exact e0.hok.fresh (Nat.le_of_lt (x.above y c (PySem.mem_of_lookup h)))
 ·unfold start
  show _=N.length
  rw [iV,jV,List.length_replicate]
  omega
def xT {CX:dj}{P:Program}{w:World}{K:PySem.W.Frag}{mg:Ab}{base:Heap}{k:Nat}{f:Addr}{name qual:Str}{params:Arguments}{body:List Stmt}{scope:Scope}{dV kV doc pm aW ct oc:Value}{an od:Option Addr}
  {dZ:Array (Option Value)} {N ps:Ad} {sp:Sp} (lk:K.lookup f=some ⟨oc,od,.func (PySem.W.fnOf name qual params body scope dV kV doc pm an aW ct),dZ⟩) (dU:PySem.W.codeIn K aW qual=true) (S:ax N ps scope)
  (len:∀vs H Q E,sp vs H Q E->vs.length=ps.length)
  (d0:∀(A:Around) (outer:List Env) (s:Shared) (H:Hp) (vs:List V) (Q:VK) (E:XK),aY k (A.deeper (envOfC qual scope s.heap.objs.size f aW))->sp vs H Q E ->
   ∃t,bS (cY CX P w K mg base N qual scope f aW A outer s H E) body t/\t { nx:=λ_ H'=>Q .non H',rt:=Q } (start N vs) H) :
  a_ P w K mg base CX (k+1) f (PySem.W.fnOf name qual params body scope dV kV doc pm an aW ct) ps sp:=by
 refine ⟨len,λA outer s H args us vs Q E hr e0 hb r f7=>?_⟩
 have hl:=len _ _ _ _ f7
 have KX:K.In s.heap:=e0.mod.kin.keeps λb o e=>(e0.bs b o e).1
 have lim:s.heap.NoLimit:=e0.mod.nolimit.keeps λb o e=>(e0.bs b o e).1
 have sk:∀y∈ps.zip us,scope.names.lookup y.1=some .local\/(scope.names.lookup y.1=some .cell/\((cellsFrom (s.heap.objs.size+1) scope.names []).lookup y.1).isSome=true):=λ⟨n,v⟩ hy=>by
  rcases S.par n (List.of_mem_zip hy).1 with q|q
  ·exact .inl q
  ·exact .inr ⟨q,PySem.W.cellsFrom_some _ _ _ (.inl q)⟩
 refine codeAny_call_function hr.depth (KX _ _ lk) rfl S.co S.gen rfl (PySem.W.codeRec_of KX dU) (hb _ _ _ _ ?_)
 refine wpAny_newFunctionEnv_cells S.kind sk λenv he s1 x=>?_
 subst he
 refine ⟨lim.keeps x.toInCall.keep,codeAny_func ?_⟩
 obtain ⟨t,ht,hq⟩:=d0 A outer s H vs Q E (hr.deeper _) f7
 have I:Inv (cY CX P w K mg base N qual scope f aW A outer s H E) [] (start N vs) H s1:=Iq S hr.hd e0 hl r x
 refine yV (ht [] s1 (start N vs) H _ I hq) (λfl s' hs=>?_) λe s' hs=>hs
 have fin:∀{ah:St} {H':Hp} {v:V} {u:Value},Inv (cY CX P w K mg base N qual scope f aW A outer s H E) [] ah H' s'->RelV v u->Q v H'->CE outer P w H s Q u s' :=
  λ{ah H' v u} J rv q=>⟨v,H',J.os,J.bare,J.base,J.hok,rv,q⟩
 cases fl with
 | ret u =>
  obtain ⟨v,ah,H',J,rv,q⟩:=hs
  exact fin J rv q
 | next =>
  obtain ⟨ah,H',J,q⟩:=hs
  exact fin (v:=V.non) (u:=Value.none) J rfl q
 | brk =>
  obtain ⟨_,_,_,q⟩:=hs
  exact q.elim
 | cont =>
  obtain ⟨_,_,_,q⟩:=hs
  exact q.elim
section
variable {X:Cx}{x:Str}{p pos:Pos}{e:Expr}{es:List Expr}{t:TA}{id T:String}{r:List V->Hp->VK->Prop}
def xU (r:List V->Hp->VK->Prop) (t:TA):TE:=fun σ H Q=>t σ H λvs H1=>r vs H1 Q
def Ir (hc:bz X (.builtin id) r) (hg:Gl X x) (hm:X.mg x=none) (hv:bootBuiltins x=some (.builtin id)) (ha:PA X (e::es) t) (hn:x ≠ "__name__" := by decide) (cf:(x==("__debug__" : Str))=false:=by decide)
  (he:starEach (e::es) X.env=(false,eval e X.env)::starEach es X.env:=by rfl) (bp:(backTo pos (starEach es X.env)).any (·.1)=false:=by rfl):PE X (.Call (.Name x p) (e::es) [] pos) (xU r t):=by
 intro pins s σ H Q I h
 refine wpAny_Call_Name_kw (wH I hg hm hv ?_ hn cf)
 exact PyProof.Rows.callWith_builtin1 (aS (ha pos pins s σ H _ I h) λus s1 ⟨vs,H1,I1,r1,q1⟩=>hc pins s1 σ H1 vs us Q I1 r1 q1) he bp
def Iu (hc:bz X (.type T) r) (hg:Gl X x) (hm:X.mg x=none) (hv:bootBuiltins x=some (.type T)) (ha:PA X (e::es) t) (hn:x ≠ "__name__" := by decide) (cf:(x==("__debug__" : Str))=false:=by decide)
  (he:starEach (e::es) X.env=(false,eval e X.env)::starEach es X.env:=by rfl) (bp:(backTo pos (starEach es X.env)).any (·.1)=false:=by rfl):PE X (.Call (.Name x p) (e::es) [] pos) (xU r t):=by
 intro pins s σ H Q I h
 refine wpAny_Call_Name_kw (wH I hg hm hv ?_ hn cf)
 exact PyProof.Rows.callWith_type1 (aS (ha pos pins s σ H _ I h) λus s1 ⟨vs,H1,I1,r1,q1⟩=>hc pins s1 σ H1 vs us Q I1 r1 q1) he bp
end
end L2
namespace HT
open PySem PyProof.Rows
section
open PySem.SeqAt
open PySem.AutoSeq1 (wpAny_loadPart')
open PySem.MeetsSeq PySem.MeetsSeq2 PySem.MeetsSeq3
end
section
variable {prog:Program}{w:World}{A:Around}{E:Aa}{s:Shared}
def cat_tup {t b:Addr}{vs ws:Af}{Q:Aa}(ht:IsTup s.heap t vs.toArray) (hb:IsTup s.heap b ws.toArray) (hv:vs≠[])
  (h1:ws=[]->Q (.ref t) s) (h2:ws≠[]->Q (.ref s.heap.objs.size) { s with heap:=s.heap.push { cls:=.type "tuple", data:=.seq (vs++ws).toArray } })
  (hsz:vs.length+ws.length<=sizeLine):wpAny (model prog w) A (binaryOp .Add (.ref t) (.ref b)) Q E s:=by
 obtain ⟨⟨cls,dd,data,sl⟩,ho,hc,n,hd⟩:=id ht
 obtain ⟨⟨rH,i5,data2,fB⟩,ho2,fC,n2,hd2⟩:=id hb
 simp only at hc hd fC hd2
 subst hc hd fC hd2
 have e:vs.toArray++ws.toArray=(vs++ws).toArray:=by simp
 by_cases hw:ws=[]
 ·exact concat_meets ⟨_,ho,rfl⟩ ⟨_,ho2,rfl⟩ noFill_tuple_add seq_tuple_add PySem.F.slot_tuple_add PySem.F.entry_tuple_add (PySem.F.args_tuple_add_2 _ _)
   (tuple_addW1 t b vs.toArray ws.toArray n n2 dd i5 sl fB (by simpa using hv) (by simp [hw])) ⟨ho,ho2,h1 hw⟩
 ·refine concat_meets ⟨_,ho,rfl⟩ ⟨_,ho2,rfl⟩ noFill_tuple_add seq_tuple_add PySem.F.slot_tuple_add PySem.F.entry_tuple_add (PySem.F.args_tuple_add_2 _ _)
   (tuple_addW2 t b vs.toArray ws.toArray n n2 dd i5 sl fB (by simpa using hv) (by simpa using hw) (by rw [yR,yR];exact hsz)) ⟨ho,ho2,?_⟩
  rw [e]
  exact h2 hw
def sIx (n d:Nat):Option Int->Nat
 | none=>d
 | some v=>if v<0 then (v+(n:Int)).toNat else min v.toNat n
def Iv (n d:Nat) (hd:d<=n) (o:Option Int):sIx n d o<=n:=by
 cases o with
 | none=>exact hd
 | some v =>
  show (if v<0 then (v+(n:Int)).toNat else min v.toNat n)<=n
  by_cases hv:v<0
  ·rw [zA hv];omega
  ·rw [zF hv];exact Nat.min_le_right _ _
def xV (v:Int) (n d:Nat):(if v<0 then max (v+(n:Int)) 0 else min v (n:Int))=((sIx n d (some v):Nat):Int):=by
 show (if v<0 then max (v+(n:Int)) 0 else min v (n:Int))=(((if v<0 then (v+(n:Int)).toNat else min v.toNat n):Nat):Int)
 by_cases hv:v<0
 ·simp only [zA hv];omega
 ·simp only [zF hv];omega
def Iw (lo hi:Option Int) (n:Nat):Builtin.Slice.sliceAdjust lo hi 1 (n:Int)=(((sIx n 0 lo:Nat):Int),((sIx n n hi:Nat):Int)):=by
 have h1:¬((1:Int)<0):=by omega
 unfold Builtin.Slice.sliceAdjust
 simp only [h1,if_false]
 refine Prod.ext ?_ ?_
 ·cases lo with
  | none=>rfl
  | some v=>exact xV v n 0
 ·cases hi with
  | none=>rfl
  | some v=>exact xV v n n
def Iy (i j:Nat):Builtin.Slice.slicePlaces (i:Int) (j:Int) 1=j-i:=by
 unfold Builtin.Slice.slicePlaces
 have h1:(1:Int)>0:=by omega
 simp only [h1,wD,Int.ediv_one]
 split<;>omega
def xW {v:Value}{o:Option Int}{Q:Option Int->Shared->Prop}(p:IsPart v o) (h:Q o s):wpAny (model prog w) A (Builtin.Slice.slicePartIndex v) Q E s:=by
 cases p with
 | none=>exact slicePart_none h
 | int i t=>exact slicePart_int h
def xX {sl:Addr}{vl vu:Value}{lo hi:Option Int}{n:Nat}{Q:Int×Int×Nat->Shared->Prop}(hs:s.heap.IsSliceOf sl vl vu .none) (pl:IsPart vl lo) (pu:IsPart vu hi)
  (h:Q (((sIx n 0 lo:Nat):Int),1,sIx n n hi-sIx n 0 lo) s):wpAny (model prog w) A (Builtin.Slice.sliceApplied (.ref sl) (pure (n:Int))) Q E s:=by
 obtain ⟨os,i6,pL,m5⟩:=id hs
 unfold Builtin.Slice.sliceApplied Builtin.Slice.sliceFields
 refine zl (zl (yQ i6 m5 (x:=vl) rfl (zl (yQ i6 m5 (x:=vu) rfl (zl (yQ i6 m5 (x:=.none) rfl (zG ?_)))))))
 refine zl (slicePart_none ?_)
 show wpAny _ _ (if ((1:Int)==0)=true then _ else _) _ _ s
 rw [zF (by decide)]
 refine zl (xW pl (zl (xW pu (zl (zG ?_)))))
 show wpAny _ _ (match Builtin.Slice.sliceAdjust lo hi 1 (n:Int) with|(lo,hi)=>pure (lo,(1:Int),Builtin.Slice.slicePlaces lo hi 1)) _ _ s
 rw [Iw lo hi n]
 show wpAny _ _ (pure (((sIx n 0 lo:Nat):Int),(1:Int),Builtin.Slice.slicePlaces ((sIx n 0 lo:Nat):Int) ((sIx n n hi:Nat):Int) 1)) _ _ s
 rw [Iy]
 exact zG h
def Iz (xs:Array Value) (i k:Nat):((List.range k).filterMap λ(m:Nat)=>xs[((i:Int)+(m:Int)*1).toNat]?).toArray=((xs.toList.drop i).take k).toArray:=by
 have e:(λ(m:Nat)=>xs[((i:Int)+(m:Int)*1).toNat]?)=λm=>xs[i+m]?:=by
  funext m
  have:((i:Int)+(m:Int)*1).toNat=i+m:=by omega
  rw [this]
 rw [e]
 have:=pick_run xs i k
 rw [List.filterMap_map] at this
 have e2:((λx=>xs[x]?)∘λx=>i+x)=λm=>xs[i+m]?:=rfl
 rw [e2] at this
 rw [this]
def getItem_tuple_cut {t sl:Addr}{items:Array Value}{vl vu:Value}{lo hi:Option Int}{Q:Aa}(ht:IsTup s.heap t items) (hs:s.heap.IsSliceOf sl vl vu .none) (pl:IsPart vl lo) (pu:IsPart vu hi)
  (hw:¬(sIx items.size 0 lo=0/\sIx items.size items.size hi=items.size))
  (h:Q (.ref s.heap.objs.size) { s with heap:=s.heap.push { cls:=.type "tuple", data:=.seq ((items.toList.drop (sIx items.size 0 lo)).take (sIx items.size items.size hi-sIx items.size 0 lo)).toArray } })
  (hsz:items.size<=sizeLine):wpAny (model prog w) A (getItem (.ref t) (.ref sl)) Q E s:=by
 have gv:sizeOk (.seq ((items.toList.drop (sIx items.size 0 lo)).take (sIx items.size items.size hi-sIx items.size 0 lo)).toArray):=by
  show ((items.toList.drop (sIx items.size 0 lo)).take (sIx items.size items.size hi-sIx items.size 0 lo)).toArray.size<=sizeLine
  rw [yR,List.length_take,List.length_drop,Array.length_toList]
  omega
 have hj:sIx items.size items.size hi<=items.size:=Iv _ _ (ya _) hi
 obtain ⟨os,i6,pL,m5⟩:=id hs
 have sr:s.TypeIs (.ref sl) "slice" := ⟨os,i6,pL⟩
 unfold getItem
 try with_reducible refine jU ?_
 first|refine zl (zG ?_)|skip
 refine zl (wpAny_sequenceKey ht.typeIs (by decide) ?_)
 refine zl (wpAny_callSpecial?_slot (name:=Str.ofString "__getitem__") ht.typeIs PyProof.Rows.slot_tuple_getitem
  (jJ PyProof.Rows.slot_tuple_getitem ht.typeIs entry_tuple_getitem ?_ (args_tuple_getitem _ _)))
 show wpAny _ _ (Builtin.Tuple.tupleItemsOf (.ref t) >>= _) _ _ s
 refine zl (tupleItemsOf_ ht ?_)
 refine zl (wpAny_typeOf sr ?_)
 rw [zA (by decide)]
 refine zl (xX hs pl pu ?_)
 have IA:¬((((sIx items.size 0 lo:Nat):Int)==0&&(1:Int)==1&&(sIx items.size items.size hi-sIx items.size 0 lo)==items.size)=true):=by
  intro q
  rw [js,js] at q
  have q1:((sIx items.size 0 lo:Nat):Int)=0:=eq_of_beq q.1.1
  have q2:sIx items.size items.size hi-sIx items.size 0 lo=items.size:=eq_of_beq q.2
  exact hw ⟨by omega,by omega⟩
 show wpAny _ _ (if (((sIx items.size 0 lo:Nat):Int)==0&&(1:Int)==1&&(sIx items.size items.size hi-sIx items.size 0 lo)==items.size)=true then _ else _) _ _ s
 rw [zF IA,Iz]
 first
  | exact zl (m:=Builtin.Tuple.tupleExact _) (jN (zG ⟨_,rfl,zG h⟩) gv)
  | exact zl (m:=Builtin.Tuple.tupleExact _) (jN (zl (zG (zG ⟨_,rfl,zG h⟩))) gv)
  | exact zl (zl (m:=Builtin.Tuple.tupleExact _) (jN (zG (zG ⟨_,rfl,zG h⟩)) gv))
  | exact zl (zl (m:=Builtin.Tuple.tupleExact _) (jN (zG ⟨_,rfl,zG h⟩) gv))
end
end HT
namespace L2
open PySem PySem.Spec PyProof.Rows
abbrev TO:=St->Hp->(Option Int->Hp->Prop)->Prop
def PO (X:Cx) (e:Option Expr) (t:TO):Prop :=
 ∀(pins:Ac) (s:Shared) (σ:St) (H:Hp) (Q:Option Int->Hp->Prop),Inv X pins σ H s->t σ H Q ->
  wpAny (model X.prog X.w) X.A (evalPart e X.env) (λu s'=>∃o H',Inv X pins σ H' s'/\IsPart u o/\Q o H') X.xe s
def IB:TO:=λ_ H Q=>Q none H
def IC (t:TE):TO:=fun σ H Q=>t σ H λx H1=>∃i,x=.int i/\Q (some i) H1
section
variable {X:Cx}{e:Expr}{te:TE}{lo hi:Option Expr}{tl th:TO}{pos p2:Pos}
def ID:PO X none IB:=by
 intro pins s σ H Q I h
 rw [evalPart_none]
 exact zG ⟨none,H,I,.none,h⟩
def IE (h:PE X e te):PO X (some e) (IC te):=by
 intro pins s σ H Q I hw
 rw [evalPart_some]
 refine aS (h pins s σ H _ I hw) λu s1 ⟨x,H1,I1,r1,q1⟩=>?_
 obtain ⟨i,rfl,q⟩:=q1
 obtain ⟨t,rfl⟩:=r1
 exact ⟨some i,H1,I1,.int i t,q⟩
def gw (X:Cx) (r:V->Option Int->Option Int->Hp->VK->Prop):Prop :=
 ∀(pins:Ac) (s:Shared) (σ:St) (H:Hp) (x:V) (v vl vu:Value) (lo hi:Option Int) (sl:Addr) (Q:VK),Inv X pins σ H s->RelV x v->s.heap.IsSliceOf sl vl vu .none->IsPart vl lo->IsPart vu hi->r x lo hi H Q ->
  ∃T id,typeLookup (.type T) "__getitem__" = pure (some (.builtin id))/\s.TypeIs v T/\wpAny (model X.prog X.w) X.A (getItem v (.ref sl)) (EP X pins σ Q) X.xe s
def gw.or {r r':V->Option Int->Option Int->Hp->VK->Prop}(h:gw X r) (h':gw X r'):gw X (λx lo hi H Q=>r x lo hi H Q\/r' x lo hi H Q):=by
 intro pins s σ H x v vl vu lo hi sl Q I rx hs pl pu q
 rcases q with q|q
 ·exact h pins s σ H x v vl vu lo hi sl Q I rx hs pl pu q
 ·exact h' pins s σ H x v vl vu lo hi sl Q I rx hs pl pu q
def IF (r:V->Option Int->Option Int->Hp->VK->Prop) (te:TE) (tl th:TO):TE:=fun σ H Q=>te σ H λx H1=>tl σ H1 λl H2=>th σ H2 λu H3=>r x l u H3 Q
def IG {r:V->Option Int->Option Int->Hp->VK->Prop}(hr:gw X r) (he:PE X e te) (hl:PO X lo tl) (hu:PO X hi th):PE X (.Subscript e (.Slice lo hi none p2) pos) (IF r te tl th):=by
 intro pins s σ H Q I h
 refine Subscript_ (aS (he pins s σ H _ I h) λv s1 ⟨x,H1,I1,r1,q1⟩=>?_)
 refine wpAny_Slice (aS (hl pins s1 σ H1 _ I1 q1) λvl s2 ⟨l,H2,I2,pl,q2⟩=>aS (hu pins s2 σ H2 _ I2 q2) λvu s3 ⟨u,H3,I3,pu,q3⟩=>?_)
 rw [evalPart_none]
 refine zG ?_
 have I4:Inv X pins σ H3 { s3 with heap:=s3.heap.push { cls:=.type "slice", data:=.fields #[vl,vu,.none] } }:=I3.kept (t':=s3.toks) λb ob q=>z9 _ q
 obtain ⟨T,id,hT,ht,hg⟩:=hr pins { s3 with heap:=s3.heap.push { cls:=.type "slice", data:=.fields #[vl,vu,.none] } } σ H3 x v vl vu l u s3.heap.objs.size Q I4 r1 (Heap.IsSliceOf.new ..) pl pu q3
 show wpAny (model X.prog X.w) X.A (subscriptTail e (.Slice lo hi none p2) v (.ref s3.heap.objs.size)) (EP X pins σ Q) X.xe { s3 with heap:=s3.heap.push { cls:=.type "slice", data:=.fields #[vl,vu,.none] } }
 exact tail_any (ops:=[.ref s3.heap.objs.size,v]) ht hT hg (by with_unfolding_all rfl)
def e9 (xs:List V) (lo hi:Option Int):List V:=(xs.drop (HT.sIx xs.length 0 lo)).take (HT.sIx xs.length xs.length hi-HT.sIx xs.length 0 lo)
def xY (xs:List V) (lo hi:Option Int):(e9 xs lo hi).length<=xs.length:=by
 unfold e9
 rw [List.length_take,List.length_drop]
 omega
def IH (K:PySem.W.Frag):V->Option Int->Option Int->Hp->VK->Prop:=λx lo hi H Q=>∃a xs,x=.ref a/\ba K H a xs /\
 ¬(HT.sIx xs.length 0 lo=0/\HT.sIx xs.length xs.length hi=xs.length)/\∀p,H p=none->Q (.ref p) (upd H p (.tup (e9 xs lo hi)))
def II:gw X (IH X.K):=by
 intro pins s σ H x v vl vu lo hi sl Q I rx hs pl pu h
 obtain ⟨a,xs,rfl,hx,hw,q⟩:=h
 cases rx
 obtain ⟨its,r,ht,hz⟩:=I.tuple hx
 have hlen:its.toArray.size=xs.length:=by rw [yR];exact r.length.symm
 refine ⟨"tuple", _,PyProof.Rows.slot_tuple_getitem.lookup,ht.typeIs,?_⟩
 refine HT.getItem_tuple_cut ht hs pl pu (by rw [hlen];exact hw) ?_ (by rw [hlen];exact hz)
 rw [hlen]
 refine ⟨.ref s.heap.objs.size,_,I.laid (t':=s.toks) (o:=.tup (e9 xs lo hi)) (λb ob q=>z9 _ q) (ya _) ?_,rfl,q _ (I.hok.fresh (ya _))⟩
 exact ⟨y8 (xY xs lo hi) hz,_,(r.drop (HT.sIx xs.length 0 lo)).take (HT.sIx xs.length xs.length hi-HT.sIx xs.length 0 lo),IsTup.new _ _⟩
def IJ (K:PySem.W.Frag):R2:=λx y H Q=>∃a b xs ys,x=.ref a/\y=.ref b/\ba K H a xs/\ba K H b ys/\xs≠[]/\xs.length+ys.length<=sizeLine /\
 (ys=[]->Q (.ref a) H)/\(ys≠[]->∀p,H p=none->Q (.ref p) (upd H p (.tup (xs++ys))))
def Vals.nil_iff {xs:List V}{us:Af}(r:Vals xs us):us=[]↔xs=[]:=by
 cases r with
 | nil=>simp
 | cons _ _=>simp
def IK:bg X (binaryOp .Add) (IJ X.K):=by
 intro pins s σ H x y v u Q I rx ry h
 obtain ⟨a,b,xs,ys,rfl,rfl,ha,hb,hx,hz,q1,q2⟩:=h
 cases rx
 cases ry
 obtain ⟨its,r1,p1,_⟩:=I.tuple ha
 obtain ⟨aU,r2,p2,_⟩:=I.tuple hb
 refine HT.cat_tup p1 p2 (λz=>hx (r1.nil_iff.mp z)) (λz=>⟨.ref a,H,I,rfl,q1 (r2.nil_iff.mp z)⟩) (λz=>?_) (by rw [<-r1.length,<-r2.length];exact hz)
 refine ⟨.ref s.heap.objs.size,_,I.laid (t':=s.toks) (o:=.tup (xs++ys)) (λb ob q=>z9 _ q) (ya _) ?_,rfl,q2 (λw=>z (r2.nil_iff.mpr w)) _ (I.hok.fresh (ya _))⟩
 exact ⟨by rw [iV];exact hz,_,r1.append r2,IsTup.new _ _⟩
end
def dw (n:Nat) (i:Int):Option Nat:=if 0<=i then (if i<n then some i.toNat else none) else if -(n:Int)<=i then some (i+n).toNat else none
def bI {α:Type}(xs:List α) (i:Int):Option α:=(dw xs.length i).bind λj=>xs[j]?
def IL {n:Nat}{i:Int}{j:Nat}(h:dw n i=some j):seqIndex? i n=some j/\j<n /\ -(n:Int)<=i/\i<n:=by
 unfold dw at h
 by_cases h0:0<=i
 ·rw [zA h0] at h
  by_cases h1:i<n
  ·rw [zA h1] at h
   have e:i.toNat=j:=Option.some.inj h
   exact ⟨by rw [seqIndex_of h0 h1,e],by omega,by omega,h1⟩
  ·rw [zF h1] at h;cases h
 ·rw [zF h0] at h
  by_cases h1 : -(n:Int)<=i
  ·rw [zA h1] at h
   have e:(i+n).toNat=j:=Option.some.inj h
   exact ⟨by rw [seqIndex_neg (by omega) h1,e],by omega,h1,by omega⟩
  ·rw [zF h1] at h;cases h
def bq {α:Type}{xs:List α}{i:Int}{v:α}(h:bI xs i=some v):∃j,seqIndex? i xs.length=some j/\xs[j]?=some v/\j<xs.length /\ -(xs.length:Int)<=i/\i<xs.length:=by
 unfold bI at h
 cases e:dw xs.length i with
 | none=>rw [e] at h;cases h
 | some j =>
  rw [e] at h
  obtain ⟨h1,h2,h3,h4⟩:=IL e
  exact ⟨j,h1,h,h2,h3,h4⟩
def gh {α:Type}(xs:List α) (v:α):bI (xs++[v]) (-1)=some v:=by
 have hl:(xs++[v]).length=xs.length+1:=by simp
 have e:dw (xs++[v]).length (-1)=some xs.length:=by
  unfold dw
  rw [hl,zF (by decide),zA (by omega)]
  congr 1
  omega
 unfold bI
 rw [e]
 show (xs++[v])[xs.length]?=some v
 simp
def d_ (b:Expr):Prop:=∀o i,subscripted b false o i=operate [o,i] (getItem o i)
def eQ (X:Cx) (r:R2):Prop :=
 ∀(value slice:Expr) (pins:Ac) (s:Shared) (σ:St) (H:Hp) (x y:V) (v u:Value) (Q:VK),Inv X pins σ H s->RelV x v->RelV y u->r x y H Q ->
  subscripted slice false v u=operate [v,u] (getItem v u)->wpAny (model X.prog X.w) X.A (subscriptTail value slice v u) (EP X pins σ Q) X.xe s
def xZ (X:Cx) (id:String) (r:V->List V->Hp->VK->Prop):Prop :=
 ∀(pins:Ac) (s:Shared) (σ:St) (H:Hp) (x:V) (xs:List V) (v:Value) (us:Af) (Q:VK),Inv X pins σ H s->RelV x v->Vals xs us->r x xs H Q ->
  wpAny (model X.prog X.w) X.A (call (.builtin id) (v::us)) (EP X pins σ Q) X.xe s
section
variable {X:Cx}{a b:Expr}{ta tb:TE}{pos:Pos}
def eQ.or {r r':R2}(h:eQ X r) (h':eQ X r'):eQ X (λx y H Q=>r x y H Q\/r' x y H Q):=by
 intro value slice pins s σ H x y v u Q I rx ry q hs
 rcases q with q|q
 ·exact h value slice pins s σ H x y v u Q I rx ry q hs
 ·exact h' value slice pins s σ H x y v u Q I rx ry q hs
def x5 {r:R2}(hr:eQ X r) (ha:PE X a ta) (hb:PE X b tb) (hs:d_ b):PE X (.Subscript a b pos) (mY r ta tb):=by
 intro pins s σ H Q I h
 exact Subscript_ (mZ ha hb I h λv u s2 x y H2 I2 rx ry q=>hr a b pins s2 σ H2 x y v u Q I2 rx ry q (hs _ _))
def x6 (K:PySem.W.Frag):R2:=λx y H Q=>∃p xs i v,x=.ref p/\y=.int i/\a4 K H p xs/\bI xs i=some v/\Q v H
def x8 (K:PySem.W.Frag):R2:=λx y H Q=>∃p xs i v,x=.ref p/\y=.int i/\ba K H p xs/\bI xs i=some v/\Q v H
def x9:R2:=λx y H Q=>∃z i c,x=.str z/\y=.int i/\z.length<=sizeLine/\bI z.cps.toList i=some c/\Q (.str ⟨#[c]⟩) H
def IM:eQ X (x6 X.K):=by
 intro value slice pins s σ H x y v u Q I rx ry h hs
 obtain ⟨p,xs,i,z,rfl,rfl,hq,he,q⟩:=h
 cases rx
 obtain ⟨t,rfl⟩:=ry
 obtain ⟨its,r,pl,hz⟩:=I.list hq
 obtain ⟨j,h1,h2,h3,h4,h5⟩:=bq he
 obtain ⟨w,ew,rw'⟩:=r.get h2
 have hl:=r.length
 have hn:=pG
 have fin:EP X pins σ Q w s:=⟨z,H,I,rw',q⟩
 by_cases h0:0<=i
 ·have hj:i.toNat=j:=by
   rw [seqIndex_of h0 h5] at h1
   exact Option.some.inj h1
  exact item_listR pl.isList h0 (by omega) (by rw [hj];simpa using ew) fin hs
 ·have hj:(i+(its.toArray.size:Int)).toNat=j:=by
   rw [seqIndex_neg (by omega) h4] at h1
   rw [yR,<-hl]
   exact Option.some.inj h1
  exact subscriptTail_builtinR (x:=w) pl.isList.typeIs slot_list_getitem.lookup
   (wpAny_getItem_list_neg (Q:=λr s'=>r=w/\EP X pins σ Q r s') pl.isList (by omega) (by rw [yR]<;>omega) (by omega) (by rw [hj];simpa using ew) ⟨rfl,fin⟩) hs
def IQ:eQ X (x8 X.K):=by
 intro value slice pins s σ H x y v u Q I rx ry h hs
 obtain ⟨p,xs,i,z,rfl,rfl,hq,he,q⟩:=h
 cases rx
 obtain ⟨t,rfl⟩:=ry
 obtain ⟨its,r,pl,hz⟩:=I.tuple hq
 obtain ⟨j,h1,h2,h3,h4,h5⟩:=bq he
 obtain ⟨w,ew,rw'⟩:=r.get h2
 have hl:=r.length
 have hn:=pG
 have fin:EP X pins σ Q w s:=⟨z,H,I,rw',q⟩
 exact subscriptTail_builtinR (x:=w) pl.typeIs slot_tuple_getitem.lookup
  (getItem_tuple (j:=j) (Q:=λr s'=>r=w/\EP X pins σ Q r s') pl (by omega) (by omega) (by rw [yR,<-hl];exact h1) (by simpa using ew) ⟨rfl,fin⟩) hs
def IU:eQ X x9:=by
 intro value slice pins s σ H x y v u Q I rx ry h hs
 obtain ⟨z,i,c,rfl,rfl,hz,he,q⟩:=h
 obtain ⟨t,rfl⟩:=rx
 obtain ⟨t',rfl⟩:=ry
 obtain ⟨j,h1,h2,h3,h4,h5⟩:=bq he
 have hl:z.cps.toList.length=z.length:=by simp [Str.length]
 rw [hl] at h1 h4 h5
 have hn:=pG
 exact tail_any (typeIs_str s z t) slot_str_getitem.lookup (getItem_str (c:=c) (by
  have e1:decide (i < -(2 ^ 63:Int))=false:=jn (by omega)
  have e2:decide (i>=2 ^ 63)=false:=jn (by omega)
  rw [e1,e2,Bool.or_false]) (by rw [h1];simpa using h2) ⟨.str ⟨#[c]⟩,H,I.tok _,⟨_,rfl⟩,q⟩) hs
def IV (K:PySem.W.Frag):R2:=λx y H Q=>x6 K x y H Q\/x8 K x y H Q\/x9 x y H Q
def IW:eQ X (IV X.K):=IM.or (IQ.or IU)
def Inv.lst {pins:Ac}{σ:St}{H:Hp}{s:Shared}{p:Addr}{xs:List V}(I:Inv X pins σ H s) (h:H p=some (.lst xs)) :
  ∃(its:Af) (n:Nat),Vals xs its/\s.heap.get? p=some { cls:=.type "list", data:=.seq its.toArray n }/\xs.length<=sizeLine:=by
 obtain ⟨z,its,n,r,e⟩:=I.hok p _ h
 exact ⟨its,n,r,e,z⟩
def IY (lo hi:Option Int) (n:Nat):(sliceBounds lo hi none n).1=((HT.sIx n 0 lo:Nat):Int)/\(sliceBounds lo hi none n).2.1=((HT.sIx n n hi:Nat):Int)/\(sliceBounds lo hi none n).2.2=1:=by
 refine ⟨?_,?_,rfl⟩
 ·cases lo with
  | none=>simp [sliceBounds,HT.sIx]
  | some i =>
   simp only [sliceBounds,HT.sIx,Option.getD_none,show (1:Int)>0 by decide,wD]
   by_cases h:i<0
   ·simp only [h,wD]<;>omega
   ·simp only [h,if_false]<;>omega
 ·cases hi with
  | none=>simp [sliceBounds,HT.sIx]
  | some i =>
   simp only [sliceBounds,HT.sIx,Option.getD_none,show (1:Int)>0 by decide,wD]
   by_cases h:i<0
   ·simp only [h,wD]<;>omega
   ·simp only [h,if_false]<;>omega
def IZ (its:Af) (lo hi:Option Int):slicePick its.toArray lo hi none=((its.drop (HT.sIx its.length 0 lo)).take (HT.sIx its.length its.length hi-HT.sIx its.length 0 lo)).toArray:=by
 obtain ⟨h1,h2,h3⟩:=IY lo hi its.toArray.size
 unfold slicePick
 rw [h1,h2,h3]
 simp only [sliceRange_one,pick_run,yR]<;>rfl
def I_ (K:PySem.W.Frag):V->Option Int->Option Int->Hp->VK->Prop:=λx lo hi H Q=>∃a xs,x=.ref a/\a4 K H a xs/\∀p,H p=none->Q (.ref p) (upd H p (.lst (e9 xs lo hi)))
def Ja:gw X (I_ X.K):=by
 intro pins s σ H x v vl vu lo hi sl Q I rx hs pl pu h
 obtain ⟨a,xs,rfl,hx,q⟩:=h
 cases rx
 obtain ⟨its,r,ht,hz⟩:=I.list hx
 have hlen:=r.length
 refine ⟨"list", _,slot_list_getitem.lookup,ht.isList.typeIs,?_⟩
 refine wpAny_getItem_list_slice ht.isList hs pl pu .none (by simp) ?_ (by rw [yR]<;>omega)
 rw [IZ,<-hlen]
 refine ⟨.ref s.heap.objs.size,_,I.laid (t':=s.toks) (o:=.lst (e9 xs lo hi)) (λb ob q=>z9 _ q) (ya _) ?_,rfl,q _ (I.hok.fresh (ya _))⟩
 exact ⟨y8 (xY xs lo hi) hz,_,0,(r.drop (HT.sIx xs.length 0 lo)).take (HT.sIx xs.length xs.length hi-HT.sIx xs.length 0 lo),yB _ rfl⟩
def zm4:bg X (compareOp .NotIn) (λx y H Q=>∃i j,x=.str i/\y=.str j/\Q (.bl (!(!(Builtin.Str.occurrences j i 0 j.length 1).isEmpty))) H):=by
 intro pins s σ H x y v u Q I rx ry h
 obtain ⟨i,j,rfl,rfl,q⟩:=h
 obtain ⟨t,rfl⟩:=rx
 obtain ⟨t',rfl⟩:=ry
 exact notIn_str ⟨.bl _,H,I,rfl,q⟩
def bz.or {f:Value}{r r':List V->Hp->VK->Prop}(h:bz X f r) (h':bz X f r'):bz X f (λxs H Q=>r xs H Q\/r' xs H Q):=by
 intro pins s σ H xs us Q I rs q
 rcases q with q|q
 ·exact h pins s σ H xs us Q I rs q
 ·exact h' pins s σ H xs us Q I rs q
def Jb:bz X (.type "list") (λxs H Q=>∃p ys,xs=[.ref p]/\(a4 X.K H p ys\/ba X.K H p ys)/\∀l,H l=none->Q (.ref l) (upd H l (.lst ys))):=by
 intro pins s σ H xs us Q I r h
 obtain ⟨p,ys,rfl,hq,q⟩:=h
 obtain ⟨u,rfl,rx⟩:=wI r
 cases rx
 have fin:∀(its:Af),Vals ys its->ys.length<=sizeLine->∀(h':Heap) (c':Nat),(∀b o',s.heap.get? b=some o'->h'.get? b=some o') ->
   h'.get? s.heap.objs.size=some { cls:=.type "list", dict:=none,data:=.seq its.toArray c',slots:=#[] }->EP X pins σ Q (.ref s.heap.objs.size) { s with heap:=h' }:=λits r' hz h' c' kp e =>
  ⟨.ref s.heap.objs.size,_,I.laid (t':=s.toks) kp (ya _) (show aZ X.prog X.w _ h' _ (.lst ys) from ⟨hz,its,c',r',e⟩),rfl,q _ (I.hok.fresh (ya _))⟩
 rcases hq with hq|hq
 ·obtain ⟨its,r',pl,hz⟩:=I.list hq
  have hlen:=r'.length
  obtain ⟨o,ho,hc,n,hd⟩:=pl.isList
  exact call_list_seq p (.inl rfl) ho hc hd (λh' c' kp e=>fin its r' hz h' c' kp e) (by simp only [yR]<;>omega)
 ·obtain ⟨its,r',pl,hz⟩:=I.tuple hq
  have hlen:=r'.length
  obtain ⟨o,ho,hc,n,hd⟩:=pl
  exact call_list_seq p (.inr rfl) ho hc hd (λh' c' kp e=>fin its r' hz h' c' kp e) (by simp only [yR]<;>omega)
def Jc:bz X (.type "tuple") (λxs H Q=>∃p ys,xs=[.ref p]/\((a4 X.K H p ys/\∀l,H l=none->Q (.ref l) (upd H l (.tup ys)))\/(ba X.K H p ys/\Q (.ref p) H))):=by
 intro pins s σ H xs us Q I r h
 obtain ⟨p,ys,rfl,h⟩:=h
 obtain ⟨u,rfl,rx⟩:=wI r
 cases rx
 rcases h with ⟨hq,q⟩|⟨hq,q⟩
 ·obtain ⟨its,r',pl,hz⟩:=I.list hq
  have hlen:=r'.length
  refine call_tuple_list pl.isList (λh' kp=>?_) (by simp only [yR]<;>omega)
  have I1:Inv X pins σ H { s with heap:=h' }:=I.kept (t':=s.toks) kp
  have I2:Inv X pins σ (upd H h'.objs.size (.tup ys)) { s with heap:=h'.push { cls:=.type "tuple", data:=.seq its.toArray } } :=
   I1.laid (t':=s.toks) (λb o e=>z9 _ e) (ya _) (show aZ X.prog X.w _ _ _ (.tup ys) from ⟨hz,its,r',IsTup.new _ _⟩)
  exact ⟨.ref h'.objs.size,_,I2,rfl,q _ (I1.hok.fresh (ya _))⟩
 ·obtain ⟨its,r',pl,hz⟩:=I.tuple hq
  exact call_tuple_same pl ⟨.ref p,H,I,rfl,q⟩
def x_ (K:PySem.W.Frag) (T:String) (x:V) (H:Hp):Prop:=match x with
 | .str _=>T = "str"
 | .int _=>T = "int"
 | .ref p=>(T = "list" /\ ∃xs,a4 K H p xs)\/(T = "tuple" /\ ∃o,K.lookup p=some o/\o.cls=.type "tuple" /\ o.dict=none) \/
   (T = "dict" /\ ((∃kvs,H p=some (.dK kvs))\/∃kvs,H p=some (.dT kvs)))\/(T = "set" /\ ∃S n,H p=some (.set S n))
 | _=>False
def Jd {pins:Ac}{σ:St}{H:Hp}{s:Shared}{T:String}{x:V}{v:Value}(I:Inv X pins σ H s) (r:RelV x v) (ty:x_ X.K T x H) :
  s.TypeIs v T/\∀a,v=.ref a->∃ob,s.heap.get? a=some ob/\ob.dict=none:=by
 cases x with
 | str z =>
  obtain ⟨t,rfl⟩:=r
  cases (show T = "str" from ty)
  exact ⟨typeIs_str s z t,λ_ e=>nomatch e⟩
 | int i =>
  obtain ⟨t,rfl⟩:=r
  cases (show T = "int" from ty)
  exact ⟨typeIs_int s i t,λ_ e=>nomatch e⟩
 | ref p =>
  cases r
  rcases ty with ⟨rfl,xs,hq⟩|⟨rfl,o,hk,hc,hd⟩|⟨rfl,hk⟩|⟨rfl,S,n,hk⟩
  ·obtain ⟨its,_,pl,_⟩:=I.list hq
   refine ⟨pl.isList.typeIs,λa e=>?_⟩
   cases e
   obtain ⟨o,n,e,c,hd,_⟩:=pl
   exact ⟨o,e,hd⟩
  ·refine ⟨⟨o,I.kIn p o hk,hc⟩,λa e=>?_⟩
   cases e
   exact ⟨o,I.kIn _ o hk,hd⟩
  ·have z:∃o,s.heap.get? p=some o/\o.ExactDict:=by
    rcases hk with ⟨kvs,hk⟩|⟨kvs,hk⟩
    ·obtain ⟨_,_,_,_,o,_,_,e,ex,_⟩:=I.hok p _ hk
     exact ⟨o,e,ex⟩
    ·obtain ⟨_,_,_,_,o,_,_,e,ex,_⟩:=I.hok p _ hk
     exact ⟨o,e,ex⟩
   obtain ⟨o,e,ex⟩:=z
   refine ⟨⟨o,e,ex.1⟩,λa e2=>?_⟩
   cases e2
   exact ⟨o,e,ex.2.1⟩
  ·obtain ⟨o,_,_,_,e,ex,_⟩:=I.hok p _ hk
   refine ⟨⟨o,e,ex.1⟩,λa e2=>?_⟩
   cases e2
   exact ⟨o,e,ex.2.1⟩
 | _=>exact ty.elim
def Je (K:PySem.W.Frag) (T:String) (r:V->List V->Hp->VK->Prop) (to:TE) (t:TA):TE:=fun σ H Q=>to σ H λx H1=>x_ K T x H1/\t σ H1 λxs H2=>r x xs H2 Q
variable {o e:Expr}{es:List Expr}{to:TE}{t:TA}{name:Str}{apos aV:Pos}{T id:String}{r:V->List V->Hp->VK->Prop}
def su (pa:PlainAttrs T) (slot:Slot T name id) (lN:typeOf (.builtin id)=pure (.type "method_descriptor")) (hm:xZ X id r) (ho:PE X o to) (ha:PA X (e::es) t)
  (bX:attributeBase o name X.env (eval o X.env)=eval o X.env:=by rfl)
  (eh:((backTo aV (starEach (e::es) X.env)).all (λx=>!x.1)&&(backToKw aV (keywordEach [] X.env)).all (λx=>x.1.isSome)
   && decide ((e::es).length+([]:List Keyword).length+(if ([]:List Keyword).isEmpty then 0 else 1)<30))=true:=by rfl)
  (c7:(apos.endLine==aV.line)=true:=by rfl) (hs:starEach (e::es) X.env=(false,eval e X.env)::starEach es X.env:=by rfl) (pM:(backTo aV (starEach es X.env)).any (·.1)=false:=by rfl) :
  PE X (.Call (.Attribute o name apos) (e::es) [] aV) (Je X.K T r to t):=by
 intro pins s σ H Q I h
 refine wpAny_Call_method_late bX eh c7 rfl (aS (ho pins s σ H _ I h) λv s1 ⟨x,H1,I1,r1,ty,q1⟩=>?_)
 obtain ⟨h1,h2⟩:=Jd I1 r1 ty
 refine ⟨T,id,pa,slot,lN,h1,h2,?_⟩
 have hA:=ha aV pins s1 σ H1 _ I1 q1
 rw [hs] at hA ⊢
 refine Calls.callWith_builtin (by show (false||(backTo aV (starEach es X.env)).any (·.1))=false;rw [pM]<;>rfl) (Calls.evalArgs_plain ?_)
 exact aS hA λus s2 ⟨vs,H2,I2,r2,q2⟩=>hm pins s2 σ H2 x vs v us Q I2 r1 r2 q2
end
def y_ (X:Cx) (id:String) (r:V->List V->Hp->VK->Prop):Prop :=
 ∀(pins:Ac) (s:Shared) (σ:St) (H:Hp) (x:V) (xs:List V) (v:Value) (us:Af) (Q:VK),Inv X pins σ H s->RelV x v->Vals xs us->r x xs H Q ->
  wpAny (model X.prog X.w) X.A (call (.builtin id) (v::us)) (EP X pins σ Q) X.xe s
def Vals.one:∀{x:V}{us:Af},Vals [x] us->∃u,us=[u]/\RelV x u
 | _,_,.cons r .nil=>⟨_,rfl,r⟩
def Vals.reverse {xs:List V}{us:Af}(h:Vals xs us):Vals xs.reverse us.reverse:=by
 induction h with
 | nil=>exact .nil
 | cons r t ih=>rw [List.reverse_cons,List.reverse_cons];exact Vals.append ih (.cons r .nil)
section
variable {X:Cx}{pins:Ac}{σ:St}{H:Hp}{s:Shared}{l b:Addr}{xs ys zs:List V}
def Inv.lset {its its':Af}{n:Nat}{f:Array Value->Array Value}{t':Nat}(I:Inv X pins σ H s) (hH:H l=some (.lst xs))
  (e:s.heap.get? l=some { cls:=.type "list", data:=.seq its.toArray n }) (hf:f its.toArray=its'.toArray) (hv:Vals ys its') (hz:ys.length<=sizeLine) :
  Inv X pins σ (upd H l (.lst ys)) { s with heap:=s.heap.update l (Obj.mapSeq f),toks:=t' }:=by
 have q:=PySem.IsL.update e f
 rw [hf] at q
 refine I.write (x:=l) (e:=l) (by rw [hH];exact trivial) (.inl rfl) (λb' u hb hu=>(jO s.heap (Obj.mapSeq f) (yw hb)).trans hu) ⟨_,q⟩ ?_
 exact ⟨hz,its',_,hv,q⟩
def Inv.lnew {its:Af}{t':Nat}(I:Inv X pins σ H s) (hv:Vals ys its) (hz:ys.length<=sizeLine) :
  Inv X pins σ (upd H s.heap.objs.size (.lst ys)) { s with heap:=s.heap.push { cls:=.type "list", data:=.seq its.toArray },toks:=t' } :=
 I.laid (λ_ _ q=>z9 _ q) (ya _) ⟨hz,its,0,hv,yB _ rfl⟩
def Inv.fresh (I:Inv X pins σ H s):H s.heap.objs.size=none:=I.hok.fresh (ya _)
def Inv.lstM (I:Inv X pins σ H s) (hH:H l=some (.lst xs)):xs.length<=sizeLine/\∃(its:Af) (n:Nat),Vals xs its/\xs.length=its.length/\s.heap.get? l=some { cls:=.type "list", data:=.seq its.toArray n }:=by
 obtain ⟨z,its,n,r,e⟩:=I.hok l _ hH
 exact ⟨z,its,n,r,r.length,e⟩
def lP {n:Nat}(h:n<=sizeLine):Builtin.List.listTooLong n=false:=by
 unfold Builtin.List.listTooLong
 exact jn (by omega)
end
section
variable {X:Cx}
def Jf:V->List V->Hp->VK->Prop:=λx vs H Q=>∃l xs y,x=.ref l/\vs=[y]/\H l=some (.lst xs)/\xs.length<sizeLine/\Q .non (upd H l (.lst (xs++[y])))
def zna:y_ X "list.append" Jf:=by
 intro pins s σ H x vs v us Q I rx rv h
 obtain ⟨l,xs,y,rfl,rfl,hH,hz,q⟩:=h
 cases rx
 obtain ⟨u,rfl,ru⟩:=rv.one
 obtain ⟨z,its,n,r,hl,e⟩:=I.lstM hH
 refine call_meets F.slot_list_append ⟨_,e,rfl⟩ F.entry_list_append (F.args_list_append_2 _ _) (PySem.list_append l its.toArray n u (by rw [yR];omega)) ⟨e,?_⟩
 refine ⟨.non,_,I.lset (its':=its++[u]) hH e (by simp) (r.append (.cons ru .nil)) ?_,rfl,q⟩
 rw [iV,List.length_singleton]
 omega
def Jg:V->List V->Hp->VK->Prop:=λx vs H Q=>∃l b xs zs,x=.ref l/\vs=[.ref b]/\H l=some (.lst xs)/\H b=some (.lst zs)/\xs.length+zs.length<=sizeLine/\Q .non (upd H l (.lst (xs++zs)))
def znc:y_ X "list.extend" Jg:=by
 intro pins s σ H x vs v us Q I rx rv h
 obtain ⟨l,b,xs,zs,rfl,rfl,hH,hB,hz,q⟩:=h
 cases rx
 obtain ⟨u,rfl,ru⟩:=rv.one
 cases ru
 obtain ⟨z,its,n,r,hl,e⟩:=I.lstM hH
 obtain ⟨z2,aU,n2,r2,hl2,e2⟩:=I.lstM hB
 have hsz:its.toArray.size+aU.toArray.size<=sizeLine:=by rw [yR,yR];omega
 have sv:¬(!its.toArray.isEmpty&&Builtin.List.listTooLong (its.toArray.size+aU.toArray.size))=true:=by
  rw [lP hsz,Bool.and_false]
  exact Bool.false_ne_true
 refine call_meets F.slot_list_extend ⟨_,e,rfl⟩ F.entry_list_extend (F.args_list_extend_2 _ _)
  (AutoSeq1.list_extend_list_list_0 l its.toArray n b aU.toArray n2 sv (by rw [yR];omega) (by omega)) ⟨e,e2,?_⟩
 refine ⟨.non,_,I.lset (its':=its++aU) hH e (by simp) (r.append r2) ?_,rfl,q⟩
 rw [iV]
 omega
def Jh:R2:=λx y H Q=>∃l b xs zs,x=.ref l/\y=.ref b/\H l=some (.lst xs)/\H b=some (.lst zs)/\xs.length+zs.length<=sizeLine/\∀p,H p=none->Q (.ref p) (upd H p (.lst (xs++zs)))
def Ji:bg X (binaryOp .Add) Jh:=by
 intro pins s σ H x y v u Q I rx ry h
 obtain ⟨l,b,xs,zs,rfl,rfl,hH,hB,hz,q⟩:=h
 cases rx
 cases ry
 obtain ⟨z,its,n,r,hl,e⟩:=I.lstM hH
 obtain ⟨z2,aU,n2,r2,hl2,e2⟩:=I.lstM hB
 refine PySem.P.add_list e e2 ?_ (by rw [yR,yR];omega)
 have ea:its.toArray++aU.toArray=(its++aU).toArray:=by simp
 rw [ea]
 exact ⟨.ref _,_,I.lnew (t':=s.toks) (r.append r2) (by rw [iV];omega),rfl,q _ I.fresh⟩
end
section
variable {prog:Program}{w:World}{A:Around}{E:Aa}{s:Shared}
end
section
variable {X:Cx}
end
end L2
namespace Att
open PySem PySem.W PySem.Calls PyProof.Rows
def Jj {P:Params}{h:Heap}:∀(ns:List Int) (vs:Af),WellAll P h vs (ns.map WData.int)->IntsAre vs ns:=by
 intro ns
 induction ns with
 | nil =>
  intro vs w
  rw [List.map_nil] at w
  cases w
  exact .nil
 | cons n ns ih =>
  intro vs w
  rw [jB] at w
  cases w with
  | cons a b =>
   cases a
   exact .cons _ _ (ih _ b)
def Jk {l:OpenLaw}{n:Nat}(hn:l.most=some n) {P:Params}{h:Heap}{args:List WData}{vals:Af}
  (k_:l.row.toRowW.claim.pre args=true) (hwl:WellAll P h vals args) :
  ∃a vs ns,vals=[Value.ref a]/\args=[WData.list (ns.map WData.int)]/\h.get? a=some { cls:=.type "list", data:=.seq vs.toArray }/\IntsAre vs ns/\ns.length<=n:=by
 have Jl:WShape.hasAll [] args [.list .int]=true:=(pre_splitW k_).1
 have hc:l.pre.holds [] { args:=args }=true:=(pre_splitW k_).2
 obtain ⟨d,r,rfl,h1,h2⟩:=hasAllW_cons Jl
 obtain rfl:=hasAllW_nil h2
 obtain ⟨xs,rfl,h3⟩:=hasW_list h1
 obtain ⟨ns,rfl⟩:=items_int h3
 have hlen:ns.length<=n:=by
  unfold OpenLaw.pre at hc
  have h4:(WTm.not (.lt (.lit (.int (n:Int))) (.len (.arg 0)))).holds [] { args:=[.list (ns.map .int)] }=true:=by
   have h4:=(holds_andW hc).1
   rw [hn] at h4
   exact h4
  have h5:=condW_of h4 (w_not (w_lt w_lit (w_len_list (w_arg rfl))))
  rw [jV] at h5
  refine Nat.le_of_not_lt λq=>?_
  have q':(n:Int)<((ns.length:Nat):Int):=by omega
  first
   | (rw [wm q'] at h5;exact absurd h5 (by decide))
   | (simp at h5;omega)
 cases hwl with
 | cons w1 w2 =>
  cases w2
  cases w1 with
  | list ho ez=>exact ⟨_,_,ns,rfl,rfl,ho,Jj ns _ ez,hlen⟩
def Jm (l:OpenLaw) (args:List WData):l.row.toRowW.claim.post args (.bool true) args=true :=
 postW_of (r:=l.row.toRowW) (X:=(true==true))
  (show WShape.has [] (.bool true) .bool=true by first|rfl|decide|simp [WShape.has,WShape.arms,WShape.armsAll])
  (show (WTm.eq .res (.lit (.bool true))).value [] { args:=args,res:=some (.bool true),after:=args }=some (.bool (true==true)) from w_eq_bool (w_res rfl) w_lit) rfl
def attach_call {l:OpenLaw}{n:Nat}{q:Program}{loose:Ad}{XP:(Ab)->Heap->Prop}{YP:World->Heap->Prop}{d:DefRec}
  (hn:l.most=some n) (m6:d.params.defaults=[])
  (call:∀(w:World) (s₀ ak:Shared) (mg mb:Ab) (fa:Addr) (o:Obj) (pm cd doc:Value) (a:Addr) (vs:Af) (ns:List Int),
   Ground q loose [] XP w s₀ mg mb ak.heap->YP w ak.heap ->
   ak.heap.get? fa=some o->o.data=.func (docDef d.name d.params d.body d.scope pm cd doc)->ak.heap.CodeRec cd d.name->mg d.name=some (.ref fa) ->
   ak.heap.get? a=some { cls:=.type "list", data:=.seq vs.toArray }->IntsAre vs ns->ns.length<=n->ak.gens=#[] ->
   codeAny (model l.prog w) callerA (.call (.ref fa) ⟨[.ref a],[]⟩) (λr s'=>r=.ok (.ret (.bool true))/\OldK ak.heap s'.heap/\s'.os=ak.os/\AllBare s'.gens) ak) :
  WalkO q loose XP YP l.row.toRowW d [] (λf vs=>PySem.call f vs):=by
 intro w s₀ ak mg mb G Y fa o pm cd doc dV kV ho hd dU hD hmg hg args vals as k_ hlay hrd hwl hlo
 obtain rfl:dV=.none:=Dflts.none hD m6
 obtain rfl:kV=.none:=Dflts.noKw hD
 obtain ⟨a,vs,ns,rfl,rfl,m7,hints,hlen⟩:=Jk hn k_ hwl
 refine enter_call (codeAny_mono (call w s₀ ak mg mb fa o pm cd doc a vs ns G Y ho (fd_plain hd) dU hmg m7 hints hlen hg) λr s' hq=>?_)
 obtain ⟨rfl,h2,h3,h4⟩:=hq
 exact ⟨.inl ⟨.bool true,.bool true,[],rfl,λ_=>rfl,.bool true,Jm l _,λ_=>⟨List.Pairwise.nil,λ_ hm=>(nomatch hm)⟩⟩,h2,h3,h4⟩
section
variable {prog:Program}{w:World}{A:Around}{E:Aa}{s:Shared}{K:Frag}
end
end Att
namespace L2
open PySem PySem.Spec PyProof.Rows
def z_:∀{vs:Af}{ns:List Int},IntsAre vs ns->Vals (ns.map V.int) vs
 | _,_,.nil=>.nil
 | _,_,.cons n t h=>.cons ⟨t,rfl⟩ (z_ h)
def Only (H:Hp):Prop:=∀b,H b=none\/∃o xs,H b=some (.frz o (.lst xs))
def Jn {P:Program}{w:World}{K:PySem.W.Frag}{mg mb:Ab}{CX:dj}{k:Nat}{fa a:Addr}{fd:FuncData}{x:Str}{sp:Sp}{ak:Shared}{vs:Af}{ns:List Int}
  (KX:K.In ak.heap) (Ag:ak.heap.Ns mainGlobals mg) (hb:ak.heap.Ns builtinsNs mb) (m8:∀x:Str,x ≠ "__name__" -> mb x=bootBuiltins x) (m9:ak.heap.NoLimit) (hg:ak.gens=#[])
  (ha:ak.heap.get? a=some { cls:=.type "list", data:=.seq vs.toArray }) (hi:IntsAre vs ns) (hl:ns.length<=sizeLine) (hr:aY k callerA)
  (F:∀base:Heap,K.In base->base.Ns mainGlobals mg->a_ P w K mg base CX k fa fd [x] sp) (sx:∀(s:Shared) (u:Value),BindsTo s fd ⟨[u],[]⟩ [(x,u)])
  (f7:∀H:Hp,Only H->a4 K H a (ns.map V.int)->sp [.ref a] H (λv _=>v=.bl true) λ_ _ _=>False)
  (sy:∀H e s',CX [] H ak (λ_ _ _=>False) e s'->False) :
  codeAny (model P w) callerA (.call (.ref fa) ⟨[.ref a],[]⟩) (λr s'=>r=.ok (.ret (.bool true))/\OldK ak.heap s'.heap/\s'.os=ak.os/\AllBare s'.gens) ak:=by
 have rv:=z_ hi
 have Aq:=hi.length
 have core:∀H:Hp,Only H->a4 K H a (ns.map V.int)->bH P w H ak.heap->(∀b,H b≠none->b=a)->(H a≠none->K.lookup a=none) ->
   codeAny (model P w) callerA (.call (.ref fa) ⟨[.ref a],[]⟩) (λr s'=>r=.ok (.ret (.bool true))/\OldK ak.heap s'.heap/\s'.os=ak.os/\AllBare s'.gens) ak:=by
  intro H hO hS hok hA hK
  have hU:∀{b:Addr} {o:Obj},ak.heap.get? b=some o->H b=none->(d9 ak.heap H).get? b=some o:=λe n=>Gu e n
  have m3:∀{b:Addr} {o:Obj} {es:Array DictEntry} {ep:Nat},ak.heap.get? b=some o->o.data=.dict es ep->H b=none:=λ{b o es ep} e d=>by
   cases q:H b with
   | none=>rfl
   | some u =>
    have e':b=a:=hA b (by rw [q];simp)
    subst e'
    rw [ha] at e;cases e
    have d':Data.seq vs.toArray _=Data.dict es ep:=d
    cases d'
  have pO:∀{b:Addr} {m:Ab},ak.heap.Ns b m->(d9 ak.heap H).Ns b m:=λ{b m} ⟨o,es,ep,e,d,r⟩=>⟨o,es,ep,hU e (m3 e d),d,r⟩
  have Aw:K.In (d9 ak.heap H):=λb o e=>hU (KX b o e) (by
   cases q:H b with
   | none=>rfl
   | some u =>
    have e':b=a:=hA b (by rw [q];simp)
    subst e'
    rw [hK (by rw [q];simp)] at e;cases e)
  have hM:Mod K mg (d9 ak.heap H):=⟨Aw,pO Ag,⟨mb,pO hb,m8⟩,let ⟨mc,h1,h2⟩:=m9;⟨mc,pO h1,h2⟩⟩
  have e0:dR P w K mg (d9 ak.heap H) callerA [] ak H:=⟨rfl,hM,λb o e=>Gv e,Nat.le_of_eq (Gs _ _),trivial,λb hb=>absurd (show b∈([]:Ae) from hb) (by simp),hok,.of_eq hg⟩
  refine codeAny_mono ((F _ Aw (pO Ag)).run callerA [] ak H ⟨[.ref a],[]⟩ [.ref a] [.ref a] _ _ hr e0 (sx ak (.ref a)) (.cons rfl .nil) (f7 H hO hS)) λr s' h=>?_
  cases r with
  | error e=>exact (sy H e s' h).elim
  | ok fl =>
   cases fl with
   | next=>exact h.elim
   | brk=>exact h.elim
   | cont=>exact h.elim
   | ret u =>
    obtain ⟨v,H',os,bare,un,Ax,r',q⟩:=h
    have q':v=.bl true:=q
    subst q'
    obtain rfl:u=Value.bool true:=r'
    refine ⟨rfl,OldK.of_keep λb o e=>?_,os,bare⟩
    cases q:H b with
    | none=>exact un.keep b o e q (by intro z;exact absurd (show b∈([]:Ae) from z) (by simp)) (by simp)
    | some u =>
     rcases hO b with z|⟨ob,xs,z⟩
     ·rw [q] at z;cases z
     ·have z2:=un.frzs b ob _ z
      obtain ⟨e1,_⟩:=hok b _ z
      obtain ⟨e2,_⟩:=Ax b _ z2
      rw [e] at e1;cases e1
      exact e2
 cases hk:K.lookup a with
 | some o =>
  have e:=KX a o hk
  rw [ha] at e
  cases e
  refine core (λ_=>none) (λ_=>.inl rfl) (.inr ⟨_,vs.toArray,_,hk,rfl,rfl,rfl,by rw [yR,Aq];exact hl,by simpa using rv⟩) (λb u z=>by have z':(none:Option HO)=some u:=z;cases z') (λb z=>absurd rfl z) λz=>absurd rfl z
 | none =>
  refine core (λb=>if b=a then some (.frz { cls:=.type "list", data:=.seq vs.toArray } (.lst (ns.map V.int))) else none) (λb=>?_) (.inl (.inr ⟨{ cls:=.type "list", data:=.seq vs.toArray },zA rfl⟩)) (λb u z=>?_) (λb z=>?_) λ_=>hk
  ·by_cases hb:b=a
   ·exact .inr ⟨_,_,zA hb⟩
   ·exact .inl (zF hb)
  ·by_cases hb:b=a
   ·have z':=(zA hb).symm.trans z
    cases z'
    subst hb
    exact ⟨ha,by rw [jV];exact hl,vs,_,rv,ha⟩
   ·have z':=(zF hb).symm.trans z
    cases z'
  ·by_cases hb:b=a
   ·exact hb
   ·exact absurd (zF hb) z
abbrev KOf {K:PySem.W.Frag}{h:Heap}(_:K.In h):PySem.W.Frag:=K
def znj {l:PySem.W.OpenLaw}{n k:Nat}{q:Program}{loose:Ad}{XP:(Ab)->Heap->Prop}{YP:World->Heap->Prop}{d:DefRec}{K:Params->PySem.W.Frag}{CX:World->dj}{sp:World->Sp}{x:Str}
  (hn:l.most=some n) (du:n<=sizeLine) (m6:d.params.defaults=[]) (hr:aY k callerA)
  (hY:∀(w:World) (h:Heap),YP w h->(K w.params).In h)
  (F:∀(w:World) (mg:Ab) (fa:Addr) (h:Heap),(K w.params).In h->h.Ns mainGlobals mg->mg d.name=some (.ref fa) ->
   ∃fd:FuncData,(∀(s:Shared) (u:Value),BindsTo s fd ⟨[u],[]⟩ [(x,u)]) /\
    ∀base:Heap,(K w.params).In base->base.Ns mainGlobals mg->a_ l.prog w (K w.params) mg base (CX w) k fa fd [x] (sp w))
  (f7:∀(w:World) (H:Hp) (a:Addr) (ns:List Int),ns.length<=n->Only H->a4 (K w.params) H a (ns.map V.int)->sp w [.ref a] H (λv _=>v=.bl true) λ_ _ _=>False)
  (sy:∀(w:World) (H:Hp) (s:Shared) (e:Value) (s':Shared),CX w [] H s (λ_ _ _=>False) e s'->False) :
  PySem.W.WalkO q loose XP YP l.row.toRowW d [] (λf vs=>PySem.call f vs):=by
 refine Att.attach_call hn m6 λw s₀ ak mg mb fa o pm cd doc a vs ns G Y ho hd dU hmg m7 hints hlen hg=>?_
 have KX:=hY w _ Y
 obtain ⟨fd,hb,hF⟩:=F w mg fa _ KX G.T.g hmg
 exact Jn KX G.T.g G.T.b G.T.builtins G.T.nolimit hg m7 hints (y8 hlen du) hr hF hb (λH hO hS=>f7 w H a ns hlen hO hS) λH e s'=>sy w H ak e s'
def inClass (s:Stmt) (j:Nat):Stmt:=match s with
 | .ClassDef _ _ _ body _ _ _ _ _ _ _=>body.getD j (.Pass ⟨0,0,0,0⟩)
 | _=>.Pass ⟨0,0,0,0⟩
def jW (s:Stmt):Arguments:=match s with
 | .FunctionDef _ a _ _ _ _ _ _ _ _=>a
 | _=>{ posonlyargs:=[],args:=[],vararg:=none,kwonlyargs:=[],kw_defaults:=[],kwarg:=none,defaults:=[] }
def jf (s:Stmt):List Stmt:=match s with
 | .FunctionDef _ _ b _ _ _ _ _ _ _=>b
 | _=>[]
def zE (s:Stmt):Scope:=match s with
 | .FunctionDef _ _ _ _ _ _ sc _ _ _=>sc
 | _=>{ kind:=.function,names:=[],isGenerator:=false,isCoroutine:=false }
abbrev Ay:dj:=λ_ _ _ _ _ _=>False
abbrev E0:XK:=λ_ _ _=>False
structure dk (K:PySem.W.Frag) (x qual:Str) (st:Stmt) (f:Addr) (fd:FuncData):Prop where
 ex:∃(oc:Value) (od:Option Addr) (kV doc pm:Value) (an:Option Addr) (aW ct:Value) (dZ:Array (Option Value)),
  fd=PySem.W.fnOf x qual (jW st) (jf st) (zE st) .none kV doc pm an aW ct/\K.lookup f=some ⟨oc,od,.func fd,dZ⟩/\PySem.W.codeIn K aW qual=true
 kp:PySem.W.keepIn K (.ref f)=true
section
variable {P:Program}{w:World}{K:PySem.W.Frag}{mg:Ab}{base:Heap}
def dk.ok {x qual:Str}{st:Stmt}{f:Addr}{fd:FuncData}{N ps:Ad}{k:Nat}{sp:Sp}(F:dk K x qual st f fd) (S:ax N ps (zE st)) (len:∀vs H Q E,sp vs H Q E->vs.length=ps.length)
  (d0:∀(aW:Value) (A:Around) (outer:List Env) (s:Shared) (H:Hp) (vs:List V) (Q:VK) (E:XK),aY k (A.deeper (envOfC qual (zE st) s.heap.objs.size f aW))->sp vs H Q E ->
   ∃t,bS (cY Ay P w K mg base N qual (zE st) f aW A outer s H E).nox (jf st) t/\t { nx:=λ_ H'=>Q .non H',rt:=Q } (start N vs) H):a_ P w K mg base Ay (k+1) f fd ps sp:=by
 obtain ⟨oc,od,kV,doc,pm,an,aW,ct,dZ,rfl,lk,dU⟩:=F.ex
 refine xT lk dU S len λA outer s H vs Q E hr f7=>?_
 obtain ⟨t,h,q⟩:=d0 aW A outer s H vs Q E hr f7
 exact ⟨t,h.nox,q⟩
def dk.binds {x qual:Str}{st:Stmt}{f:Addr}{fd:FuncData}{ps:Ad}(F:dk K x qual st f fd)
  (h:∀(kV doc pm:Value) (an:Option Addr) (aW ct:Value) (us:Af),us.length=ps.length->bindArgs (PySem.W.fnOf x qual (jW st) (jf st) (zE st) .none kV doc pm an aW ct) ⟨us,[]⟩=pure (ps.zip us)):Binds K fd ps []:=by
 obtain ⟨oc,od,kV,doc,pm,an,aW,ct,dZ,rfl,lk,dU⟩:=F.ex
 exact .all (h kV doc pm an aW ct)
def hV {x qual:Str}{st:Stmt}{f:Addr}{oc:Value}{od an:Option Addr}{dZ:Array (Option Value)}{kV doc pm aW ct:Value}(l:K.lookup f=some ⟨oc,od,.func (PySem.W.fnOf x qual (jW st) (jf st) (zE st) .none kV doc pm an aW ct),dZ⟩)
  (c:PySem.W.codeIn K aW qual=true) (k:PySem.W.keepIn K (.ref f)=true):dk K x qual st f (PySem.W.fnOf x qual (jW st) (jf st) (zE st) .none kV doc pm an aW ct):=⟨⟨oc,od,kV,doc,pm,an,aW,ct,dZ,rfl,l,c⟩,k⟩
end
section
variable {X:Cx}
def pv (i:Nat) {x:Str} {pos:Pos} (hN:X.N[i]?=some x:=by rfl) (hv:mO X.env.scope x:=by first|exact Or.inl rfl|exact Or.inr (Or.inl rfl)|exact Or.inr (Or.inr rfl)) (hd:(x==("__debug__" : Str))=false:=by decide)
  (dU:(x==("__classdict__" : Str))=false:=by decide):PE X (.Name x pos) (pq i):=xi hN hv hd dU
end
def dS (H H':Hp):Prop:=∀b o,H b=some o->H' b=some o
def dS.refl (H:Hp):dS H H:=λ_ _ h=>h
def dS.trans {H H1 H2:Hp}(a:dS H H1) (b:dS H1 H2):dS H H2:=λc o h=>b c o (a c o h)
def dS.free {H H':Hp}(e:dS H H') {l:Addr}(h:H' l=Option.none):H l=Option.none:=by
 cases q:H l with
 | none=>rfl
 | some o =>
  rw [e l o q] at h
  cases h
def dS.seq {K:PySem.W.Frag}{H H':Hp}{a:Addr}{xs:List V}(e:dS H H') (h:a4 K H a xs):a4 K H' a xs:=by
 rcases h with (h|⟨o,h⟩)|h
 ·exact .inl (.inl (e _ _ h))
 ·exact .inl (.inr ⟨o,e _ _ h⟩)
 ·exact .inr h
end L2
set_option maxHeartbeats 4000000
namespace L2
open PySem PySem.Spec PyProof.Rows
def Az {l z D b:Nat}(h1:l<z) (h2:z=D) (h3:D<=b) (h4:b=l):False:=by omega
def i7 {b D C:Nat}(h1:b<D) (h2:C=D+1) (h3:b=C):False:=by omega
def AA {b e d:Nat}(h1:b<e) (h2:e<=d) (h3:d<=b):False:=by omega
def AE {b D p:Nat}(h1:b<D) (h2:p=D) (h3:p=b):False:=by omega
def sA (env:Env):∀(l:List (Str×NameKind)) (acc:List (Str×Addr)),(∀p∈l,p.2=.free->∃c,env.cells.lookup p.1=some c) ->
  ∃cl,(forIn l acc (λ(x:Str×NameKind) (cs:List (Str×Addr))=>if (x.snd==NameKind.free)=true then do
            let a <-cellOf env x.fst
            pure (ForInStep.yield ((x.fst,a)::cs))
      else pure (ForInStep.yield cs)):Sem (List (Str×Addr)))=pure cl /\
   (∀y c,(y,c)∈cl->(y,c)∈acc\/(env.cells.lookup y=some c/\(y,NameKind.free)∈l))/\(∀p∈acc,p∈cl)/\(∀y,(y,NameKind.free)∈l->∃c,(y,c)∈cl)
 | [],acc,_=>⟨acc,rfl,λ_ _ h=>.inl h,λ_ h=>h,λ_ h=>nomatch h⟩
 | (n,k)::r,acc,ez=>by
  by_cases hk:k=.free
  ·subst hk
   obtain ⟨c,hc⟩:=ez (n,.free) y3 rfl
   obtain ⟨cl,e,h1,h2,h3⟩:=sA env r ((n,c)::acc) λp hp=>ez p (jh _ hp)
   refine ⟨cl,?_,λy d hy=>?_,λp hp=>h2 p (jh _ hp),λy hy=>?_⟩
   ·rw [List.forIn_cons]
    simp only [beq_self_eq_true,wD]
    have:cellOf env n=pure c:=by unfold cellOf;rw [hc]
    rw [this]
    exact e
   ·rcases h1 y d hy with q|q
    ·rcases yL.mp q with q|q
     ·cases q
      exact .inr ⟨hc,y3⟩
     ·exact .inl q
    ·exact .inr ⟨q.1,jh _ q.2⟩
   ·rcases yL.mp hy with q|q
    ·cases q
     exact ⟨c,h2 _ y3⟩
    ·exact h3 y q
  ·obtain ⟨cl,e,h1,h2,h3⟩:=sA env r acc λp hp=>ez p (jh _ hp)
   refine ⟨cl,?_,λy d hy=>?_,h2,λy hy=>?_⟩
   ·rw [List.forIn_cons]
    have:(k==NameKind.free)=false:=by simpa using hk
    simp only [this,Bool.false_eq_true,if_false]
    exact e
   ·rcases h1 y d hy with q|q
    ·exact .inl q
    ·exact .inr ⟨q.1,jh _ q.2⟩
   ·rcases yL.mp hy with q|q
    ·cases q
     exact absurd rfl hk
    ·exact h3 y q
def AF {β:Type}{y:Str}:∀{l:List (Str×β)}{c:β},(y,c)∈l->∃d,l.lookup y=some d
 | (n,b)::r,c,h=>by
  rw [yE]
  cases e:y==n with
  | true=>exact ⟨b,rfl⟩
  | false =>
   rcases yL.mp h with q|q
   ·cases q
    simp at e
   ·exact AF q
def AG (env:Env) (scope:Scope) (ez:∀p∈scope.names,p.2=.free->∃c,env.cells.lookup p.1=some c) :
  ∃cl,closureFor scope env=pure cl/\(∀y c,cl.lookup y=some c->env.cells.lookup y=some c)/\(∀y,(y,NameKind.free)∈scope.names->∃c,cl.lookup y=some c):=by
 obtain ⟨cl,e,h1,_,h3⟩:=sA env scope.names [] ez
 refine ⟨cl,?_,λy c hy=>?_,λy hy=>?_⟩
 ·simp only [closureFor]
  rw [e]
  rfl
 ·rcases h1 y c (PySem.mem_of_lookup hy) with z|z
  ·cases z
  ·exact z.1
 ·obtain ⟨c,hc⟩:=h3 y hy
  exact AF hc
structure cO (sc scope:Scope) (x:Str):Prop where
 kind:scope.kind=.function
 ncell:∀y∈scope.names,y.2 ≠ .cell
 names:∀y∈scope.names,y.2=.local->scope.names.lookup y.1=some .local/\(y.1=x\/y.1 = ".0")
 hx:scope.names.lookup x=some .local
 free:∀y∈scope.names,y.2=.free->sc.names.lookup y.1=some .cell
def hW (X:Cx) (M:Ad) (scope:Scope) (cl:List (Str×Addr)) (x:Str) (C:Addr) (af:Shared) (ai:Hp) (fp:Ae) (E:Aa):Cx :=
 { X with N:=x::M,s₀:=af,H₀:=ai,env:=compEnvC scope cl C X.env,outer:=X.stack,ex:=fp,fn:=λ_=>false,pn:=[],xe:=E }
def Hid (scope:Scope) (M N:Ad):Prop:=M.length=N.length/\∀p∈M.zip N,p.1=p.2\/p.1∉scope.names.map Prod.fst
def Hid.refl {scope:Scope}{N:Ad}:Hid scope N N:=⟨rfl,λp hp=>.inl (by
 obtain ⟨i,hi,e⟩:=List.getElem_of_mem hp
 rw [List.getElem_zip] at e
 rw [<-e])⟩
def Hid.get {scope:Scope}{M N:Ad}(h:Hid scope M N) {i:Nat}{y:Str}(e:M[i]?=some y):N[i]?=some y\/y∉scope.names.map Prod.fst:=by
 obtain ⟨hi,ei⟩:=yr.mp e
 have hj:i<N.length:=h.1▸hi
 have hm:(M[i],N[i])∈M.zip N:=lC (i:=i) (by rw [List.getElem?_zip_eq_some];exact ⟨yu hi,yu hj⟩)
 rcases h.2 _ hm with q|q
 ·exact .inl (by rw [yu hj,<-ei];exact congrArg some q.symm)
 ·exact .inr (by rw [<-ei];exact q)
def AH (X:Cx) (scope:Scope) (cl:List (Str×Addr)) (x:Str) (C:Addr) (af:Shared) (ai:Hp) (fp:Ae) (E:Aa):Cx :=
 { X with N:=x::X.N,s₀:=af,H₀:=ai,env:=compEnvC scope cl C X.env,outer:=X.stack,ex:=fp,fn:=λ_=>false,pn:=[],xe:=E }
section
variable {X:Cx}{scope:Scope}{cl:List (Str×Addr)}{x:Str}
def h_ {env:Env}{y:Str}{k:NameKind}(h:(relabel scope env).names.lookup y=some k):∃k0,(y,k0)∈scope.names/\((k0=.free/\env.kindOf y=some .cell/\k=.cell)\/(k=k0/\¬(k0=.free/\env.scope.kind=.function/\env.kindOf y=some .cell))):=by
 have hm:=PySem.mem_of_lookup h
 obtain ⟨⟨n,k0⟩,hn,e⟩:=wE.mp hm
 by_cases hc:(k0==NameKind.free&&env.scope.kind == .function&&env.kindOf n==some .cell)=true
 ·have e':(n,NameKind.cell)=(y,k):=by rw [<-e];simp only [hc,wD]
  cases e'
  simp only [js,beq_iff_eq] at hc
  exact ⟨_,hn,.inl ⟨hc.1.1,hc.2,rfl⟩⟩
 ·have e':(n,k0)=(y,k):=by rw [<-e];simp only [hc,if_false];rfl
  cases e'
  refine ⟨_,hn,.inr ⟨rfl,λ⟨a,b,c⟩=>hc ?_⟩⟩
  simp [a,b,c]
def AI (S:cO X.env.scope scope x) {y:Str} (h:(relabel scope X.env).names.lookup y=some .local):y=x\/y = ".0" := by
 obtain ⟨k0,hm,⟨_,_,e⟩|⟨e,_⟩⟩:=h_ h
 ·cases e
 ·subst e
  exact (S.names _ hm rfl).2
def sC (S:cO X.env.scope scope x) (hk:X.env.scope.kind=.function) {y:Str}(h:(relabel scope X.env).names.lookup y=some .cell\/(relabel scope X.env).names.lookup y=some .free):(y,NameKind.free)∈scope.names:=by
 rcases h with h|h
 ·obtain ⟨k0,hm,⟨e,_,_⟩|⟨e,_⟩⟩:=h_ h
  ·subst e;exact hm
  ·subst e;exact absurd rfl (S.ncell _ hm)
 ·obtain ⟨k0,hm,⟨_,_,e⟩|⟨e,n⟩⟩:=h_ h
  ·cases e
  ·subst e
   exact hm
end
def Jo {P:Program}{wd:World}{B:Around}{Z:Result->Shared->Prop}{u0:Shared}{el tg iter:Expr}{sc:Scope}{ps:Pos}{iv ac:Value}{ev:Env}(J0:Nat->Shared->Prop)
  (turn:∀k u,J0 k u->wpAny (model P wd) B (pyNext iv) (λr u1=>match r with|none=>Z (.ok .next) u1|some v=>wpAny (model P wd) B (letOwnedTupleGo tg iv v) (λ_ u2 =>
   wpAny (model P wd) B (assign tg ev v) (λ_ u3=>wpAny (model P wd) B (eval el ev) (λy u4=>wpAny (model P wd) B (call (.builtin "list.append") [ac,y]) (λ_ u5=>∃m,m<k/\J0 m u5)
    (notedBy (model P wd) B ev λe u=>Z (.error e) u) u4) (notedBy (model P wd) B ev λe u=>Z (.error e) u) u3) (notedBy (model P wd) B ev λe u=>Z (.error e) u) u2) (notedBy (model P wd) B ev λe u=>Z (.error e) u) u1)
   (notedBy (model P wd) B ev λe u=>Z (.error e) u) u)
  (k0:Nat) (gy:J0 k0 u0):codeAny (model P wd) B (.compLoop (.ListComp el [⟨tg,iter,[],0⟩] sc ps) 0 iv ac ev) Z u0:=by
 refine codeAny_loop rfl J0 (λk u hJ=>wpAny_noted (E:=λe u=>Z (.error e) u) (env:=ev) (m:=compTurn (.ListComp el [⟨tg,iter,[],0⟩] sc ps) 0 iv ac ev) ?_) k0 gy
 rw [compTurn_list1]
 have one:=turn k u hJ
 refine zl (wpAny_standAt (zl (yV one (λr u1 q1=>?_) λ_ _ z=>z)))
 cases r with
 | none=>exact zG q1
 | some v =>
  refine zl (yV q1 (λ_ u2 q2=>zl (yV q2 (λ_ u3 q3=>?_) λ_ _ z=>z)) λ_ _ z=>z)
  exact zl (zl (yV q3 (λy u4 q4=>zl (yV q4 (λ_ u5 q5=>zG (zG ⟨rfl,q5⟩)) λ_ _ z=>z)) λ_ _ z=>z))
def i9 (J:It) (te:TE) (σ:St) (Q:VK) (H1:Hp):Prop:=∃W:Nat->Nat->List V->Hp->Prop,(∃m,W 0 m [] H1)/\∀i m ys H,W i m ys H ->
 (J.stop i H/\ys.length<=sizeLine/\∀l,H l=none->Q (.ref l) (upd H l (.lst ys))) \/
 (J.go i H/\ys.length<=sizeLine/\∀z H',J.yld i H z H'->te (some z::σ) H' λy H2=>∃m',m'<m/\W (i+1) m' (ys++[y]) H2)
def AJ (wi:TI) (te:TE):TE:=fun σ H Q=>wi σ H λJ H1=>i9 J te σ Q H1
end L2
namespace L2
open PySem PySem.Spec PyProof.Rows PySem.W
structure cP (sc scope:Scope) (xs:Ad):Prop where
 kind:scope.kind=.function
 ncell:∀y∈scope.names,y.2 ≠ .cell
 names:∀y∈scope.names,y.2=.local->scope.names.lookup y.1=some .local/\(y.1∈xs\/y.1 = ".0")
 free:∀y∈scope.names,y.2=.free->sc.names.lookup y.1=some .cell
def fD (X:Cx) (scope:Scope) (cl:List (Str×Addr)) (xs:Ad) (C:Addr) (af:Shared) (ai:Hp) (fp:Ae) (E:Aa):Cx :=
 { X with N:=xs++X.N,s₀:=af,H₀:=ai,env:=compEnvC scope cl C X.env,outer:=X.stack,ex:=fp,fn:=λ_=>false,pn:=[],xe:=E }
def dh (X:Cx) (M:Ad) (scope:Scope) (cl:List (Str×Addr)) (xs:Ad) (C:Addr) (af:Shared) (ai:Hp) (fp:Ae) (E:Aa):Cx :=
 { X with N:=xs++M,s₀:=af,H₀:=ai,env:=compEnvC scope cl C X.env,outer:=X.stack,ex:=fp,fn:=λ_=>false,pn:=[],xe:=E }
section
variable {X:Cx}{scope:Scope}{xs:Ad}
def AK (S:cP X.env.scope scope xs) {y:Str} (h:(relabel scope X.env).names.lookup y=some .local):y∈xs\/y = ".0" := by
 obtain ⟨k0,hm,⟨_,_,e⟩|⟨e,_⟩⟩:=h_ h
 ·cases e
 ·subst e
  exact (S.names _ hm rfl).2
def sD (S:cP X.env.scope scope xs) (hk:X.env.scope.kind=.function) {y:Str}(h:(relabel scope X.env).names.lookup y=some .cell\/(relabel scope X.env).names.lookup y=some .free):(y,NameKind.free)∈scope.names:=by
 rcases h with h|h
 ·obtain ⟨k0,hm,⟨e,_,_⟩|⟨e,_⟩⟩:=h_ h
  ·subst e;exact hm
  ·subst e;exact absurd rfl (S.ncell _ hm)
 ·obtain ⟨k0,hm,⟨_,_,e⟩|⟨e,n⟩⟩:=h_ h
  ·cases e
  ·subst e
   exact hm
end
def gz (X:Cx) (ifs:List Expr) (t:TT):Prop:=∀(pins:Ac) (s:Shared) (σ:St) (H:Hp) (Q:Bool->Hp->Prop),Inv X pins σ H s->t σ H Q ->
 wpAny (model X.prog X.w) X.A (forIn ifs true λc r=>if r=true then do let ok <-isTrue c X.env (eval c X.env);pure (ForInStep.yield ok) else pure (ForInStep.yield r)) (TP X pins σ Q) X.xe s
def lQ:TT:=λ_ H Q=>Q true H
def AL {X:Cx}:gz X [] lQ:=λpins s σ H Q I h=>wpAny_tests_nil ⟨H,I,h⟩
def AO {X:Cx}{c:Expr}{t:TT}(h:PT X c t):gz X [c] t:=λpins s σ H Q I q=>wpAny_tests_one (h pins s σ H Q I q)
def gz.nox {X:Cx}{ifs:List Expr}{t:TT}(h:gz X.nox ifs t):gz X ifs t:=λpins s σ H Q I hw =>
 yV (h pins s σ H Q (I.wish _) hw) (λb s' ⟨H',I',q⟩=>⟨H',I'.unwish,q⟩) λ_ _ z=>z.elim
def Jp {P:Program}{wd:World}{B:Around}{Z:Result->Shared->Prop}{u0:Shared}{el tg iter:Expr}{ifs:List Expr}{sc:Scope}{ps:Pos}{iv ac:Value}{ev:Env}(J0:Nat->Shared->Prop)
  (turn:∀k u,J0 k u->wpAny (model P wd) B (pyNext iv) (λr u1=>match r with|none=>Z (.ok .next) u1|some v=>wpAny (model P wd) B (letOwnedTupleGo tg iv v) (λ_ u2 =>
   wpAny (model P wd) B (assign tg ev v) (λ_ u3=>wpAny (model P wd) B (forIn ifs true λc r=>if r=true then do let ok <-isTrue c ev (eval c ev);pure (ForInStep.yield ok) else pure (ForInStep.yield r)) (λok u4 =>
    if ok=true then wpAny (model P wd) B (eval el ev) (λy u5=>wpAny (model P wd) B (call (.builtin "list.append") [ac,y]) (λ_ u6=>∃m,m<k/\J0 m u6)
    (notedBy (model P wd) B ev λe u=>Z (.error e) u) u5) (notedBy (model P wd) B ev λe u=>Z (.error e) u) u4 else ∃m,m<k/\J0 m u4) (notedBy (model P wd) B ev λe u=>Z (.error e) u) u3) (notedBy (model P wd) B ev λe u=>Z (.error e) u) u2) (notedBy (model P wd) B ev λe u=>Z (.error e) u) u1)
   (notedBy (model P wd) B ev λe u=>Z (.error e) u) u)
  (k0:Nat) (gy:J0 k0 u0):codeAny (model P wd) B (.compLoop (.ListComp el [⟨tg,iter,ifs,0⟩] sc ps) 0 iv ac ev) Z u0:=by
 refine codeAny_loop rfl J0 (λk u hJ=>wpAny_noted (E:=λe u=>Z (.error e) u) (env:=ev) (m:=compTurn (.ListComp el [⟨tg,iter,ifs,0⟩] sc ps) 0 iv ac ev) ?_) k0 gy
 rw [compTurn_list]
 have one:=turn k u hJ
 refine zl (wpAny_standAt (zl (yV one (λr u1 q1=>?_) λ_ _ z=>z)))
 cases r with
 | none=>exact zG q1
 | some v =>
  refine zl (yV q1 (λ_ u2 q2=>zl (yV q2 (λ_ u3 q3=>zl (yV q3 (λok u4 q4=>?_) λ_ _ z=>z)) λ_ _ z=>z)) λ_ _ z=>z)
  cases ok with
  | true=>exact zl (zl (yV q4 (λy u4 q4=>zl (yV q4 (λ_ u5 q5=>zG (zG ⟨rfl,q5⟩)) λ_ _ z=>z)) λ_ _ z=>z))
  | false=>exact zl (zG (zG ⟨rfl,q4⟩))
def gA (J:It) (gt:TG) (tt:TT) (te:TE) (n:Nat) (σ:St) (Q:VK) (H1:Hp):Prop:=∃W:Nat->Nat->List V->Hp->Prop,(∃m,W 0 m [] H1)/\∀i m ys H,W i m ys H ->
 (J.stop i H/\ys.length<=sizeLine/\∀l,H l=none->Q (.ref l) (upd H l (.lst ys))) \/
 (J.go i H/\ys.length<=sizeLine/\∀z H',J.yld i H z H'->gt z (List.replicate n none++σ) H' λaw H1=>∃own:St,aw=own++σ/\own.length=n/\tt aw H1 λb H2 =>
  if b=true then te aw H2 λy H3=>∃m',m'<m/\W (i+1) m' (ys++[y]) H3 else ∃m',m'<m/\W (i+1) m' ys H2)
def sE (wi:TI) (gt:TG) (tt:TT) (te:TE) (n:Nat):TE:=fun σ H Q=>wi σ H λJ H1=>gA J gt tt te n σ Q H1
def sF {X:Cx} {elt iter tg:Expr} {ifs:List Expr} {xs:Ad} {pos:Pos} {scope:Scope} {wi:TI} {gt:TG} {tt:TT} {te:TE} {M:Ad} (hc:X.calm=true) (S:cP X.env.scope scope xs) (eN:Hid scope M X.N) (bY:((".0" : Str)::(xs++M)).Nodup)
  (hi:PI X tg iter wi) (sG:∀cl C af ai fp E,PG (dh X M scope cl xs C af ai fp E) tg gt) (i_:∀cl C af ai fp,gz (dh X M scope cl xs C af ai fp (λ_ _=>False)) ifs tt) (he:∀cl C af ai fp,PE (dh X M scope cl xs C af ai fp (λ_ _=>False)) elt te)
  (hs:∀v,foldedSetIterable iter X.env v=pure v:=by intro _;rfl):PE X (.ListComp elt [⟨tg,iter,ifs,0⟩] scope pos) (sE wi gt tt te xs.length):=by
 intro pins s σ H Q I h
 have hN:(xs++M).Nodup:=(jC.mp bY).2
 have sH:(".0" : Str)∉M:=λz=>(jC.mp bY).1 (yX _ z)
 obtain ⟨cl,j_,cE,ia⟩:=AG X.env scope λp hp hf=>I.ok.has p.1 (.inl (S.free p hp hf))
 have ke:X.env.scope.kind=.function:=I.ok.kind
 rw [eval_ListComp]
 refine wpAny_comprehension_free (use:=none) rfl hs j_ S.kind (λy hy hl=>(S.names y hy hl).1) ?_
 refine aS (hi pins s σ H _ I h) λv s1 h1=>aS h1 λpE af h2=>?_
 obtain ⟨it,fp,tn,J,H2,e,I2,T,aK,f2,W,⟨m0,w0⟩,turn⟩:=h2
 subst e
 refine jN (wpAny_newFunctionEnv S.ncell (by intro y hy;simp at hy) (λau aD aB=>?_) S.kind)
 dsimp only at aD aB ⊢
 generalize hH2:af.heap.push { cls:=.type "list", dict:=none,data:=.seq ([]:Af).toArray }=G2 at aD aB ⊢
 have hC:G2.objs.size=af.heap.objs.size+1:=by rw [<-hH2,Heap.size_push]
 have f9:af.heap.objs.size≠G2.objs.size:=by rw [hC];exact yD (jP _)
 have AQ:af.heap.objs.size<=G2.objs.size:=by rw [hC];exact Nat.le_succ _
 have old:∀b o,af.heap.get? b=some o->au.get? b=some o:=λb o e=>by
  have hb:b≠G2.objs.size:=by rw [hC];exact yD (Nat.lt_succ_of_lt (yh e))
  exact aB.extBut b o hb (z9 _ (hH2▸z9 _ e))
 have cv:au.get? af.heap.objs.size=some { cls:=.type "list", data:=.seq (#[]:Array Value) 0 }:=aB.extBut _ _ f9 (z9 _ (hH2▸yB _ rfl))
 generalize hD:af.heap.objs.size=D at *
 generalize hCC:G2.objs.size=C at *
 have dG:∀{b:Nat} {o:Obj},af.heap.get? b=some o->b<D:=λe=>by rw [<-hD];exact yh e
 have nofr:∀b,D<=b->b∉cA X.stack:=λb hb z=>by
  rcases yL.mp (I2.stkSub b z) with q|q
  ·exact Az I2.lt hD hb q
  ·exact I2.nofs (by rw [hD];exact hb) q
 let E':Aa:=notedBy (model X.prog X.w) X.A (compEnvC scope cl C X.env) λe s'=>compPost (model X.prog X.w) X.A X.xe none (EP X pins σ Q) (.ref D) C (.error e) s'
 let Y:Cx:=dh X M scope cl xs C af H2 fp E'
 have c9:∀b∈fp,cD X pins H2 b:=f2
 have kf:Y.Ok:=by
  refine ⟨I2.ok.mod,S.kind,I2.ok.glob,I2.ok.blt,(by show af.heap.objs.size<=C;omega),λy z c h1 h2=>?_,λy hy=>?_,λy c hf=>?_,I2.ok.hd,I2.ok.frames,.inl rfl,λb hb=>?_,I2.bs,y8 I2.ok.bsz I2.sz,λb o hb hx=>?_,λb hb hx=>?_,I2.stack,I2.stkFree⟩
  ·exact I2.ok.inj y z c (cE y c h1) (cE z c h2)
  ·exact ia y (sD S ke hy)
  ·cases hf
  ·refine ⟨λz=>?_,λy c hy=>(c9 b hb).2.2.2.2.1 y c (cE y c hy)⟩
   obtain ⟨o,ho,_⟩:=T.obj 0 _ aK b hb
   exact i7 (dG ho) hC z
  ·rcases (c9 b hx).2.2.2.1 with z|z
   ·exact I2.ok.noex b o hb z
   ·exact AA (yh hb) I2.ok.bsz z
  ·rcases yL.mp (I2.stkSub b hx) with q|q
   ·exact (c9 b hb).2.1 q
   ·exact (c9 b hb).2.2.1 q
 have eS:∀{s':Shared} {H':Hp} {o:Obj},s'.heap.get? D=some o->H' D=none->(∀v,o.data ≠ .cell v)->∀p∈[(D,o)],s'.heap.get? p.1=some p.2/\H' p.1=none/\p.1≠Y.env.locals/\p.1∉Y.fs/\∀v,p.2.data ≠ .cell v:=λ{s' H' o} e1 e2 e3 p hp=>by
  have ep:p=(D,o):=by simpa using hp
  subst ep
  exact ⟨e1,e2,f9,nofr D (ya _),e3⟩
 have I0:Inv Y [(D,{ cls:=.type "list", data:=.seq (#[]:Array Value) 0 })] (List.replicate xs.length none++σ) H2 { af with heap:=au,toks:=af.toks+([]:List (Str×Value)).length }:=by
  have fresh:∀b,D<=b->H2 b=none:=λb hb=>I2.hok.fresh (by rw [hD];exact hb)
  refine ⟨kf,rfl,I2.bare,Un.kept old,⟨_,aD,λi y v e1 e2 e3=>?_⟩,λy c hy=>?_,fresh C (by omega),λy c hy=>I2.freeC y c (cE y c hy),λp hp=>eS cv (fresh D (ya _)) (λv z=>by cases z) p hp,I2.hok.kept old,?_⟩
  ·by_cases a7:i<xs.length
   ·rw [g8 (by simpa using a7),List.getElem?_replicate] at e2
    simp [a7] at e2
   ·obtain ⟨j,rfl⟩:∃j,i=xs.length+j:=⟨i-xs.length,by omega⟩
    have ng:M[j]?=some y:=by
     have:(xs++M)[xs.length+j]?=some y:=e1
     rw [iW (by omega)] at this
     simpa using this
    have sI:X.N[j]?=some y:=by
     rcases eN.get ng with q|q
     ·exact q
     ·refine absurd ?_ q
      rcases e3 with e3|e3|e3<;>(obtain ⟨k0,hm,_⟩:=h_ e3;exact wE.mpr ⟨_,hm,rfl⟩)
    have sJ:σ[j]?=some (some v):=by
     rw [iW (by simp)] at e2
     simpa using e2
    have ib:¬(y∈xs\/y = ".0"):=λz=>by
     have hm:=lC ng
     rcases z with z|z
     ·exact (List.nodup_append.mp hN).2.2 y z y hm rfl
     ·rw [z] at hm
      exact sH hm
    have cZ:(y,NameKind.free)∈scope.names:=by
     rcases e3 with e3|e3|e3
     ·exact absurd (AK S e3) ib
     ·exact sD S ke (.inl e3)
     ·exact sD S ke (.inr e3)
    have ni:X.env.scope.names.lookup y=some .cell:=S.free _ cZ rfl
    obtain ⟨m,hn,hl⟩:=I2.loc
    obtain ⟨u,r,l⟩:=hl j y v sI sJ (.inr (.inl ni))
    refine ⟨u,r,?_⟩
    rcases l with ⟨hk,_⟩|⟨_,c,lH,dq⟩
    ·have:X.env.kindOf y=some .cell:=ni
     rw [this] at hk;cases hk
    ·obtain ⟨c',cw⟩:=ia y cZ
     have:=cE y c' cw
     rw [lH] at this
     cases this
     refine .inr ⟨?_,c,cw,?_⟩
     ·rcases e3 with e3|e3|e3
      ·exact absurd (AK S e3) ib
      ·exact .inl e3
      ·exact .inr e3
     ·obtain ⟨o,ho,hd⟩:=dq
      exact ⟨o,old c o ho,hd⟩
  ·obtain ⟨v,o,ho,hd⟩:=I2.cell y c (cE y c hy)
   exact ⟨v,o,old c o ho,hd⟩
  ·show (List.replicate xs.length none++σ).length=(xs++M).length
   simp [I2.len,eN.1]
 have kg:∀{pl:Ac} {H':Hp},(∀p∈pl,p.1=D)->(∀b∈fp,H' b=none)->∀b∈fp,cD Y pl H' b:=λ{pl H'} bp hn b hb=>by
  obtain ⟨o,ho,_⟩:=T.obj 0 _ aK b hb
  refine ⟨hn b hb,λz=>?_,?_,.inl hb,(kf.exf b hb).2,λp hp z=>?_⟩
  ·exact i7 (dG ho) hC z
  ·exact kf.exfs b hb
  ·have hp':p∈pl:=by simpa [Y,dh] using hp
   exact AE (dG ho) (bp p hp') z
 have loop:codeAny (model X.prog X.w) X.A (.compLoop (.ListComp elt [⟨tg,iter,ifs,0⟩] scope pos) 0 (.ref it) (.ref D) (compEnvC scope cl C X.env))
   (compPost (model X.prog X.w) X.A X.xe none (EP X pins σ Q) (.ref D) C) { af with heap:=au,toks:=af.toks+([]:List (Str×Value)).length }:=by
  refine Jp (λn s'=>∃i ys H' its k,Inv Y [(D,{ cls:=.type "list", data:=.seq (its:Af).toArray k })] (List.replicate xs.length none++σ) H' s'/\Vals ys its/\tn i s'.heap/\(∀b∈fp,H' b=none)/\W i n ys H') ?_ m0
   ⟨0,[],H2,[],0,I0,.nil,T.keep 0 _ _ aK (λb hb o e=>old b o e),λb hb=>(c9 b hb).1,w0⟩
  rintro n s3 ⟨i,ys,H3,its,k,I3,rv,aX,hG,w3⟩
  have fE:∀{o:Obj},∀p∈[(D,o)],p.1=D:=λ{o} p hp=>by
   have ep:p=(D,o):=by simpa using hp
   rw [ep]
  obtain ⟨gD,nD,_,_,_⟩:=I3.pin (D,_) (yX _ y3)
  rcases turn i n ys H3 w3 with ⟨stop,hz,q⟩|⟨go,hz,step⟩
  ·refine aS (T.done Y rfl rfl rfl hc i _ s3 _ H3 E' I3 (kg fE hG) aX stop) λr s4 ⟨hr,I4⟩=>?_
   subst hr
   obtain ⟨sL,kh,_,_,_⟩:=I4.pin (D,_) (yX _ y3)
   obtain ⟨m4,sN,_⟩:=id I4.loc
   refine ⟨m4,sN,λh' c_=>?_⟩
   refine ⟨.ref D,upd H3 D (.lst ys),?_,rfl,q D kh⟩
   have f6:∀{b:Addr} {u:HO},H3 b=some u->b≠C:=λe z=>by
    have:H3 C=none:=I4.free
    rw [z,this] at e;cases e
   refine I2.call' (s':={ s4 with heap:=h' }) (ch:=fp) (H':=upd H3 D (.lst ys)) I4.os ?_ ?_ I4.bare λb hb=>⟨(c9 b hb).2.2.2.1,(c9 b hb).2.1,(c9 b hb).2.2.2.2.1,(c9 b hb).2.2.2.2.2⟩
   ·have B:=I4.base
    have ki:∀{b:Nat} {o:Obj},af.heap.get? b=some o->b≠C:=λe z=>i7 (dG e) hC z
    have kj:∀{b:Addr} {u:HO},H3 b=some u->b≠D:=λe z=>by rw [z,kh] at e;cases e
    refine ⟨λb o e nn hb hx=>(c_.2 b (ki e)).trans (B.keep b o e nn hb hx),λb o e nn hb hx=>?_,λb o e nn hx=>?_,λb o e hx=>?_,λb xs e=>?_,λb o u e=>?_,λb ps e=>?_⟩
    ·obtain ⟨sl,z⟩:=B.slot b o e nn hb hx
     exact ⟨sl,(c_.2 b (ki e)).trans z⟩
    ·have sO:b≠D:=yD (dG e)
     rw [zM sO]
     exact B.free b o e nn hx
    ·obtain ⟨o',z⟩:=B.there b o e hx
     exact ⟨o',(c_.2 b (ki e)).trans z⟩
    ·have z:=B.tups b xs e
     rw [zM (kj z)];exact z
    ·have z:=B.frzs b o u e
     rw [zM (kj z)];exact z
    ·obtain ⟨more,z⟩:=B.tbls b ps e
     exact ⟨more,by rw [zM (kj z)];exact z⟩
   ·intro a o e
    by_cases ha:a=D
    ·subst ha
     rw [yC] at e
     cases e
     exact ⟨hz,its,k,rv,(c_.2 _ f9).trans sL⟩
    ·rw [zM ha] at e
     have eA:∀b u,H3 b=some u->(upd H3 D (.lst ys)) b=some u:=λb u z=>by
      have hb:b≠D:=λw=>by rw [w,kh] at z;cases z
      rw [zM hb];exact z
     refine (I4.hok a o e).stay (λb u hb z=>(c_.2 b ?_).trans z) (λb z=>eA b _ z) λb xs z=>eA b _ z
     rcases hb with hb|hb
     ·rw [hb];exact f6 e
     ·exact f6 hb
  ·refine aS (T.item Y rfl rfl rfl hc i _ s3 _ H3 E' I3 (kg fE hG) aX go) λr s4 ⟨u,hr,h4⟩=>?_
   subst hr
   refine aS h4 λ_ s5 ⟨z,H5,I5,r5,y5,cU,mV⟩=>?_
   have mW:=I5.pinned (kg fE mV) (T.obj _ _ cU)
   have fF:PG Y tg gt:=sG cl C af H2 fp E'
   have sP:PE Y elt te:=PE.nox (X:=Y) (he cl C af H2 fp)
   have Jq:gz Y ifs tt:=gz.nox (X:=Y) (i_ cl C af H2 fp)
   refine aS (fF _ s5 (List.replicate xs.length none++σ) H5 z u _ mW r5 (step z _ y5)) λ_ s6 ⟨aH,H6,I6,own,e1,e2,q6⟩=>?_
   subst e1
   have wk:∀(j:Nat) v,(List.replicate xs.length none++σ)[j]?=some (some v)->(own++σ)[j]?=some (some v):=λj v e=>by
    by_cases a7:j<xs.length
    ·rw [g8 (by simpa using a7),List.getElem?_replicate] at e
     simp [a7] at e
    ·rw [iW (by simp;omega)] at e
     rw [iW (by omega),e2]
     simpa using e
   have wl:(List.replicate xs.length none++σ).length=(own++σ).length:=by simp [e2]
   refine aS (Jq _ s6 _ _ _ I6 q6) λb s7 ⟨H7,I7,q7⟩=>?_
   cases b with
   | true =>
    refine aS (sP _ s7 _ _ _ I7 q7) λuy s7 ⟨y,H7,I7,ry,m',hm,w7⟩=>?_
    obtain ⟨nj,kl,_,_,_⟩:=I7.pin (D,_) (yX _ (ly _ y3))
    refine wpAny_list_append_plain ⟨k,nj⟩ (λh' bp c_=>?_) (by rw [yR,<-rv.length];exact hz)
    obtain ⟨k',nk⟩:=bp
    have I8:Inv Y [] (own++σ) H7 { s7 with heap:=h' }:=(I7.pins_of (pins':=[]) (λp hp=>nomatch hp)).turned (it:=D) (t':=s7.toks) (λb o hb e=>(c_.2 b hb).trans e) kl f9
     (.inr (by show af.heap.objs.size<=D;omega)) (λa c hy sQ=>by
      obtain ⟨v',o',ho',_⟩:=I2.cell a c (cE a c hy)
      exact yD (dG ho') sQ) (λp hp=>by simp [Y,dh] at hp)
    have I9:Inv Y [] (List.replicate xs.length none++σ) H7 { s7 with heap:=h' }:=I8.weak wl wk
    have dy:∀b∈fp,∃o,s5.heap.get? b=some o/\s7.heap.get? b=some o/\H7 b=none:=λb hb=>by
     obtain ⟨o,e,_⟩:=T.obj _ _ cU b hb
     have q:=I7.pin (b,o) (yX _ (yX _ (mT hb e)))
     exact ⟨o,e,q.1,q.2.1⟩
    have sR:∀b∈fp,b≠D:=λb hb=>by
     obtain ⟨o,ho,_⟩:=T.obj 0 _ aK b hb
     exact yD (dG ho)
    have eT:its.toArray.push uy=(its++[uy]).toArray:=by simp
    rw [eT] at nk
    refine ⟨m',hm,i+1,ys++[y],H7,its++[uy],k',I9.pins_of (eS nk kl λv e=>by cases e),rv.append (.cons ry .nil),T.keep (i+1) _ _ cU λb hb o e=>?_,λb hb=>?_,w7⟩
    ·obtain ⟨o',e1,e2,_⟩:=dy b hb
     rw [e] at e1
     cases e1
     exact (c_.2 b (sR b hb)).trans e2
    ·obtain ⟨_,_,_,q⟩:=dy b hb
     exact q
   | false =>
    obtain ⟨m',hm,w7⟩:=q7
    obtain ⟨nj,kl,_,_,_⟩:=I7.pin (D,_) (yX _ (ly _ y3))
    have I9:Inv Y [] (List.replicate xs.length none++σ) H7 s7:=(I7.pins_of (pins':=[]) (λp hp=>nomatch hp)).weak wl wk
    have dy:∀b∈fp,∃o,s5.heap.get? b=some o/\s7.heap.get? b=some o/\H7 b=none:=λb hb=>by
     obtain ⟨o,e,_⟩:=T.obj _ _ cU b hb
     have q:=I7.pin (b,o) (yX _ (yX _ (mT hb e)))
     exact ⟨o,e,q.1,q.2.1⟩
    refine ⟨m',hm,i+1,ys,H7,its,k,I9.pins_of (eS nj kl λv e=>by cases e),rv,T.keep (i+1) _ _ cU λb hb o e=>?_,λb hb=>?_,w7⟩
    ·obtain ⟨o',e1,e2,_⟩:=dy b hb
     rw [e] at e1
     cases e1
     exact e2
    ·obtain ⟨_,_,_,q⟩:=dy b hb
     exact q
 exact codeAny_compStart_list loop (T.self X.A 0 _ _ _ (T.keep 0 _ _ aK (λb hb o e=>old b o e)) loop)
def AR {X:Cx} {elt iter tg:Expr} {ifs:List Expr} {xs:Ad} {pos:Pos} {scope:Scope} {wi:TI} {gt:TG} {tt:TT} {te:TE} {N:Ad} (hc:X.calm=true) (S:cP X.env.scope scope xs) (eN:X.N=N) (bY:((".0" : Str)::(xs++N)).Nodup)
  (hi:PI X tg iter wi) (sG:∀cl C af ai fp E,PG (fD X scope cl xs C af ai fp E) tg gt) (i_:∀cl C af ai fp,gz (fD X scope cl xs C af ai fp (λ_ _=>False)) ifs tt) (he:∀cl C af ai fp,PE (fD X scope cl xs C af ai fp (λ_ _=>False)) elt te)
  (hs:∀v,foldedSetIterable iter X.env v=pure v:=by intro _;rfl):PE X (.ListComp elt [⟨tg,iter,ifs,0⟩] scope pos) (sE wi gt tt te xs.length) :=
 sF (M:=X.N) hc S Hid.refl (by rw [eN];exact bY) hi sG i_ he hs
def Jr {X:Cx} {elt iter:Expr} {x:Str} {px pos:Pos} {scope:Scope} {wi:TI} {te:TE} {M:Ad} (hc:X.calm=true) (S:cO X.env.scope scope x) (eN:Hid scope M X.N) (bY:((".0" : Str)::x::M).Nodup)
  (hi:PI X (.Name x px) iter wi) (he:∀cl C af ai fp,PE (hW X M scope cl x C af ai fp (λ_ _=>False)) elt te)
  (hs:∀v,foldedSetIterable iter X.env v=pure v:=by intro _;rfl):PE X (.ListComp elt [⟨.Name x px,iter,[],0⟩] scope pos) (AJ wi te):=by
 have hN:([x]++M).Nodup:=(jC.mp bY).2
 have S':cP X.env.scope scope [x]:=⟨S.kind,S.ncell,λy hy h=>⟨(S.names y hy h).1,(S.names y hy h).2.imp (λe=>by rw [e];exact List.mem_singleton_self _) id⟩,S.free⟩
 have fF:∀cl C af ai fp E,PG (dh X M scope cl [x] C af ai fp E) (.Name x px) (wo 0):=λcl C af ai fp E=>wR (X:=dh X M scope cl [x] C af ai fp E) (i:=0) hN rfl (.inl (j1 S.hx)) (.inr (j1 S.hx))
 have e:∀σ Q,(λJ H1=>i9 J te σ Q H1)=λJ H1=>gA J (wo 0) lQ te 1 σ Q H1:=fun σ Q=>by
  funext J H1
  exact propext (exists_congr λW=>and_congr Iff.rfl (forall_congr' λi=>forall_congr' λm=>forall_congr' λys=>forall_congr' λH=>imp_congr Iff.rfl (or_congr Iff.rfl (and_congr Iff.rfl (and_congr Iff.rfl (forall_congr' λz=>forall_congr' λH'=>imp_congr Iff.rfl
   ⟨λh=>⟨[some z],rfl,rfl,h⟩,λ⟨_,_,_,h⟩=>h⟩))))))
 intro pins s σ H Q I h
 refine sF (te:=te) (tt:=lQ) hc S' eN bY hi fF (λcl C af ai fp=>AL) (λcl C af ai fp=>he cl C af ai fp) hs pins s σ H Q I ?_
 show wi σ H λJ H1=>gA J (wo 0) lQ te 1 σ Q H1
 rw [<-e]
 exact h
end L2
namespace L2
open PySem PySem.Spec PyProof.Rows
def sS (z:Str):It:=⟨λi _=>i<z.cps.size,λi H v H'=>H'=H/\∃c,z.cps[i]?=some c/\v=.str ⟨#[c]⟩,λi _=>z.cps.size<=i⟩
def AU {P:Program} {w:World} {K:PySem.W.Frag} {tg:Expr} (z:Str) (t:Tok) (it:Addr) (ty:String) (lN:ty = "str_ascii_iterator" \/ ty = "str_iterator"):Turn P w K tg (sS z) [it] it (λi h=>h.IsStrIter it ty z t i) where
 mem:=by simp
 obj:=λi h st b hb=>by
  have e:b=it:=by simpa using hb
  subst e
  obtain ⟨o,e,c,d⟩:=st
  exact ⟨o,e,λv z=>by rw [d] at z;cases z⟩
 keep:=λi h h' st k=>by
  obtain ⟨o,e,r⟩:=st
  exact ⟨o,k it (by simp) o e,r⟩
 item:=by
  intro X hP hw hK hc i pins s σ H E I hf st hg
  subst hP hw hK
  obtain ⟨f0,f1,f2,f3,f4,f5⟩:=hf it (by simp)
  have W:Walks X.prog X.w X.A it [it] [it] z.cps.size (SignAt z) (λi h=>h.IsStrIter it ty z t i):=by
   rcases lN with e|e
   ·rw [e];exact Walks.strAscii (I.ok.hd hc) it z t
   ·rw [e];exact Walks.strWide (I.ok.hd hc) it z t
  refine W.item i s _ _ hg st λv h' tk hv bh kk=>?_
  obtain ⟨c,u,sT,rfl⟩:=hv
  have I1:Inv X pins σ H { s with heap:=h',toks:=tk }:=I.turned (λb o hb e=>kk b o (by simpa using hb) e) f0 f1 f3 f4 f5
  obtain ⟨o,e,cc,d⟩:=id bh
  exact ⟨_,rfl,lJ (s:={ s with heap:=h',toks:=tk }) e cc d (by rcases lN with e|e<;>rw [e]<;>decide) ⟨.str ⟨#[c]⟩,H,I1,⟨u,rfl⟩,⟨rfl,c,sT,rfl⟩,bh,λb hb=>(hf b hb).1⟩⟩
 done:=by
  intro X hP hw hK hc i pins s σ H E I hf st hg
  subst hP hw hK
  obtain ⟨f0,f1,f2,f3,f4,f5⟩:=hf it (by simp)
  have hn:z.cps[i]?=none:=by
   have Js:z.cps.size<=i:=hg
   simpa using Js
  rcases lN with e|e
  ·rw [e] at st
   exact wpAny_pyNext_ascii_end (I.ok.hd hc) st hn λh' eb=>⟨rfl,I.turned (t':=s.toks) (λb o hb e=>eb b o hb e) f0 f1 f3 f4 f5⟩
  ·rw [e] at st
   exact wpAny_pyNext_wide_end (I.ok.hd hc) st hn λh' eb=>⟨rfl,I.turned (t':=s.toks) (λb o hb e=>eb b o hb e) f0 f1 f3 f4 f5⟩
 self:=λA i s Q E st h=>by
  rcases lN with e|e
  ·rw [e] at st;exact wpAny_pyIter_striter_ascii st h
  ·rw [e] at st;exact wpAny_pyIter_striter_wide st h
section
variable {X:Cx}
def Jt:gw X (λx lo hi H Q=>∃z,x=.str z/\z.length<=sizeLine/\Q (.str (Txt.slice z lo hi)) H):=by
 intro pins s σ H x v vl vu lo hi sl Q I rx hs pl pu h
 obtain ⟨z,rfl,hz,q⟩:=h
 obtain ⟨t,rfl⟩:=rx
 refine ⟨"str", _,F.slot_str_getitem.lookup,typeIs_str _ _ _,?_⟩
 have fin:∀t' k,EP X pins σ Q (.str (Txt.slice z lo hi) t') { s with toks:=k }:=λt' k=>⟨.str _,H,I.tok _,⟨_,rfl⟩,q⟩
 cases pl with
 | none =>
  cases pu with
  | none=>exact wpAny_getItem_str_slice (l:=none) (u:=none) (st:=none) hs rfl (post_val_or_str ⟨y8 (Txt.slice_le z _ _) hz,fin⟩)
  | int j uj=>exact wpAny_getItem_str_slice (l:=none) (u:=some (j,uj)) (st:=none) hs rfl (post_val_or_str ⟨y8 (Txt.slice_le z _ _) hz,fin⟩)
 | int i ui =>
  cases pu with
  | none=>exact wpAny_getItem_str_slice (l:=some (i,ui)) (u:=none) (st:=none) hs rfl (post_val_or_str ⟨y8 (Txt.slice_le z _ _) hz,fin⟩)
  | int j uj=>exact wpAny_getItem_str_slice (l:=some (i,ui)) (u:=some (j,uj)) (st:=none) hs rfl (post_val_or_str ⟨y8 (Txt.slice_le z _ _) hz,fin⟩)
def AV:∀{bs:List Bool}{us:Af},Vals (bs.map V.bl) us->us=bs.map Value.bool
 | [],us,r=>by rw [List.map_nil] at r;cases r;rfl
 | b::bs,us,r=>by
  rw [jB] at r
  cases r with
  | cons r1 r2 =>
   have e:_=Value.bool b:=r1
   rw [jB,<-AV r2,e]
def cF:∀{ys:Ad}{us:Af},Vals (ys.map V.str) us->StrsAre us ys
 | [],us,r=>by rw [List.map_nil] at r;cases r;exact .nil
 | y::ys,us,r=>by
  rw [jB] at r
  cases r with
  | cons r1 r2 =>
   obtain ⟨t,e⟩:=r1
   subst e
   exact .cons y t (cF r2)
def Ju (hc:X.calm=true):bz X (.builtin "all") (λxs H Q=>∃(a:Addr) (bs:List Bool),xs=[.ref a]/\a4 X.K H a (bs.map V.bl)/\Q (.bl (bs.all id)) H):=by
 intro pins s σ H xs us Q I r h
 obtain ⟨a,bs,rfl,hl,q⟩:=h
 obtain ⟨u,rfl,ru⟩:=wI r
 cases ru
 obtain ⟨its,rv,pl,hz⟩:=I.list hl
 have e:=AV rv
 subst e
 refine call_all_walk (wpAny_pyIter_list pl.isList ?_)
 have hh:X.A.in1.handled=none:=I.ok.hd hc
 have a7:a<s.heap.objs.size:=by
  obtain ⟨o,e,_⟩:=pl.isList
  exact yh e
 have km:a≠s.heap.objs.size:=yD a7
 refine ⟨s.heap.objs.size,_,_,_,_,_,λi=>(bs[i]?).getD true,rfl,Walks.list hh s.heap.objs.size a km (bs.map Value.bool).toArray,⟨⟨_,yB _ rfl,rfl,rfl⟩,pl.isList.at λo e=>z9 _ e⟩,?_,λh' tk kk=>?_⟩
 ·intro i v s' Q' E' hp hq
  have hp':(bs.map Value.bool)[i]?=some v:=by simpa using hp
  rw [jr] at hp'
  cases eb:bs[i]? with
  | none=>rw [eb] at hp';cases hp'
  | some b =>
   rw [eb] at hp'
   have:Value.bool b=v:=Option.some.inj hp'
   subst this
   refine wC ?_
   dsimp only at hq
   rw [eb] at hq
   exact hq
 ·have e1:(List.range (bs.map Value.bool).toArray.size).all (λi=>(bs[i]?).getD true)=bs.all id:=by
   rw [yR,jV]
   rw [Bool.eq_iff_iff,List.all_eq_true,List.all_eq_true]
   constructor
   ·intro hh b hb
    obtain ⟨i,hi,e⟩:=List.getElem_of_mem hb
    have:=hh i (mL.mpr hi)
    rw [yu hi,e] at this
    exact this
   ·intro hh i hi
    have pP:=mL.mp hi
    rw [yu pP]
    exact hh _ (List.getElem_mem pP)
  rw [e1]
  refine ⟨.bl (bs.all id),H,?_,rfl,q⟩
  exact I.kept (t':=tk) λb o e=>kk b o (λz=>by
   have z':b=s.heap.objs.size:=by simpa using z
   exact absurd (yh e) (by rw [z'];exact Nat.lt_irrefl _)) (z9 _ e)
def Jv:bg X (compareOp .In) (λx y H Q=>∃(c:Nat) (z:Str),x=.str ⟨#[c]⟩/\y=.str z/\Q (.bl (decide (c∈z.cps.toList))) H):=by
 intro pins s σ H x y v u Q I rx ry h
 obtain ⟨c,z,rfl,rfl,q⟩:=h
 refine HE pins s σ H _ _ v u Q I rx ry ⟨_,_,rfl,rfl,?_⟩
 rw [StrLaws.found_one]
 exact q
end
section
variable {κ:Type} [DecidableEq κ]
def cG (kvs:List (κ×V)) (k:κ):Option V:=(kvs.find? λkv=>decide (kv.1=k)).map (·.2)
def putK (kvs:List (κ×V)) (k:κ) (v:V):List (κ×V) :=
 if (kvs.any λkv=>decide (kv.1=k))=true then kvs.map (λkv=>if kv.1=k then (kv.1,v) else kv) else kvs++[(k,v)]
def pQ {p:κ×V}{r:List (κ×V)}{k:κ}(e:p.1=k):cG (p::r) k=some p.2:=by simp [cG,List.find?_cons,e]
def pR {p:κ×V}{r:List (κ×V)}{k:κ}(e:¬p.1=k):cG (p::r) k=cG r k:=by simp [cG,List.find?_cons,e]
def AW (k:κ):∀kvs:List (κ×V),(kvs.any λkv=>decide (kv.1=k))=(cG kvs k).isSome
 | []=>rfl
 | p::r=>by
  rw [List.any_cons]
  by_cases e:p.1=k
  ·simp only [pQ e,wm e,Bool.true_or,Option.isSome_some]
  ·rw [pR e,jn e,Bool.false_or];exact AW k r
def sU (kvs:List (κ×V)) (k:κ) (v:V):(putK kvs k v).length<=kvs.length+1:=by
 unfold putK
 split
 ·rw [jV];omega
 ·rw [iV,wF,List.length_nil];omega
def bF.isSome_eq {o:Option V}{u:Option Value}(r:bF o u):o.isSome=u.isSome:=by
 cases o with
 | none=>cases u with
  | none=>rfl
  | some _=>exact (show False from r).elim
 | some _=>cases u with
  | none=>exact (show False from r).elim
  | some _=>rfl
def bF.getD {o:Option V}{u:Option Value}{d:V}{d':Value}(r:bF o u) (rd:RelV d d'):RelV (o.getD d) (u.getD d'):=by
 cases o with
 | none=>cases u with
  | none=>exact rd
  | some _=>exact (show False from r).elim
 | some _=>cases u with
  | none=>exact (show False from r).elim
  | some _=>exact r
def KV.val {kvs:List (κ×V)}{vs:List (κ×Value)}(r:KV kvs vs) (k:κ):bF (cG kvs k) (valueAt vs k):=by
 unfold KV at r
 induction r with
 | nil=>exact True.intro
 | @cons p q ps qs h t ih =>
  obtain ⟨h1,h2⟩:=h
  by_cases e:p.1=k
  ·have e':q.1=k:=h1.symm.trans e
   have b:valueAt (q::qs) k=some q.2:=by simp [valueAt,List.find?_cons,e']
   rw [pQ e,b];exact h2
  ·have e':¬q.1=k:=λz=>e (h1.trans z)
   have b:valueAt (q::qs) k=valueAt qs k:=by simp [valueAt,List.find?_cons,e']
   rw [pR e,b];exact ih
def KV.any {kvs:List (κ×V)}{vs:List (κ×Value)}(r:KV kvs vs) (k:κ):(kvs.any λkv=>decide (kv.1=k))=vs.any λkv=>decide (kv.1=k):=by
 unfold KV at r
 induction r with
 | nil=>rfl
 | cons h t ih=>rw [List.any_cons,List.any_cons,ih,h.1]
def KV.repl {kvs:List (κ×V)}{vs:List (κ×Value)}(r:KV kvs vs) (k:κ) {y:V}{u:Value}(ry:RelV y u) :
  KV (kvs.map λkv=>if kv.1=k then (kv.1,y) else kv) (vs.map λkv=>if kv.1=k then (kv.1,u) else kv):=by
 unfold KV at r ⊢
 induction r with
 | nil=>exact .nil
 | @cons p q ps qs h t ih =>
  rw [jB,jB]
  refine .cons ?_ ih
  obtain ⟨h1,h2⟩:=h
  by_cases e:p.1=k
  ·rw [zA e,zA (h1.symm.trans e)];exact ⟨h1,ry⟩
  ·rw [zF e,zF (λz=>e (h1.trans z))];exact ⟨h1,h2⟩
def KV.put {kvs:List (κ×V)}{vs:List (κ×Value)}(r:KV kvs vs) (k:κ) {y:V}{u:Value}(ry:RelV y u):KV (putK kvs k y) (stored vs k u):=by
 unfold putK stored
 rw [r.any k]
 by_cases e:(vs.any λkv=>decide (kv.1=k))=true
 ·rw [zA e,zA e];exact r.repl k ry
 ·rw [zF e,zF e];exact Paired.snoc r ⟨rfl,ry⟩
def KV.keys {kvs:List (κ×V)}{vs:List (κ×Value)}(r:KV kvs vs):kvs.map (·.1)=vs.map (·.1):=by
 unfold KV at r
 induction r with
 | nil=>rfl
 | cons h t ih=>rw [jB,jB,ih,h.1]
def KV.length {kvs:List (κ×V)}{vs:List (κ×Value)}(r:KV kvs vs):kvs.length=vs.length:=Paired.length r
end
def kn {P:Program}{w:World}{k:Key}{u:Value}(r:RelV (kV k) u):(a3 P w).is k u=true:=by
 cases k with
 | inl i=>obtain ⟨t,e⟩:=(show ∃t,u=Value.int i t from r);subst e;exact Gm P w i t
 | inr x=>obtain ⟨t,e⟩:=(show ∃t,u=Value.str x t from r);subst e;exact Gn P w x t
def AX {P:Program}{w:World}:∀{ks:List Key}{us:Af},Vals (ks.map kV) us->ItemsAre (a3 P w) ks us
 | [],_,r=>by rw [List.map_nil] at r;cases r;exact .nil
 | k::ks,_,r=>by
  rw [jB] at r
  cases r with
  | cons h t=>exact .cons (kn h) (AX t)
abbrev KT (H:Hp):List (List Key×V)->List (List Key×Addr×Value)->Prop:=Paired λp q=>p.1=q.1/\H q.2.1=some (.tup (p.1.map kV))/\RelV p.2 q.2.2
def KT.val {H:Hp}{kvs:List (List Key×V)}{xs:List (List Key×Addr×Value)}(r:KT H kvs xs) (k:List Key):bF (cG kvs k) ((atKey xs k).map (·.2)):=by
 induction r with
 | nil=>exact True.intro
 | @cons p q ps qs h t ih =>
  obtain ⟨h1,_,h2⟩:=h
  by_cases e:p.1=k
  ·have e':q.1=k:=h1.symm.trans e
   have b:atKey (q::qs) k=some q.2:=by simp [atKey,List.find?_cons,e']
   rw [pQ e,b];exact h2
  ·have e':¬q.1=k:=λz=>e (h1.trans z)
   have b:atKey (q::qs) k=atKey qs k:=by simp [atKey,List.find?_cons,e']
   rw [pR e,b];exact ih
def KT.repl {H:Hp}{kvs:List (List Key×V)}{xs:List (List Key×Addr×Value)}(r:KT H kvs xs) (k:List Key) {y:V}{u:Value}(ry:RelV y u) :
  KT H (kvs.map λkv=>if kv.1=k then (kv.1,y) else kv) (xs.map (putAt k u)):=by
 induction r with
 | nil=>exact .nil
 | @cons p q ps qs h t ih =>
  rw [jB,jB]
  refine .cons ?_ ih
  obtain ⟨h1,h2,h3⟩:=h
  unfold putAt
  by_cases e:p.1=k
  ·rw [zA e,zA (h1.symm.trans e)];exact ⟨h1,h2,ry⟩
  ·rw [zF e,zF (λz=>e (h1.trans z))];exact ⟨h1,h2,h3⟩
def KT.put {H:Hp}{kvs:List (List Key×V)}{xs:List (List Key×Addr×Value)}(r:KT H kvs xs) (k:List Key) {b:Addr}{y:V}{u:Value}(hb:H b=some (.tup (k.map kV))) (ry:RelV y u) :
  KT H (putK kvs k y) (storedH xs k b u):=by
 have e:(kvs.any λkv=>decide (kv.1=k))=(atKey xs k).isSome:=by
  rw [AW,(r.val k).isSome_eq,Option.isSome_map]
 unfold putK storedH
 rw [e]
 by_cases q:(atKey xs k).isSome=true
 ·rw [zA q,zA q];exact r.repl k ry
 ·rw [zF q,zF q];exact Paired.snoc r ⟨rfl,hb,ry⟩
def KT.keeps {H H':Hp}{kvs:List (List Key×V)}{xs:List (List Key×Addr×Value)}(r:KT H kvs xs) (ht:∀b ys,H b=some (.tup ys)->H' b=some (.tup ys)):KT H' kvs xs :=
 Paired.mapP r λ_ _ z=>⟨z.1,ht _ _ z.2.1,z.2.2⟩
section
variable {P:Program}{w:World}{H:Hp}{h:Heap}{a:Addr}
def AY {u:HO}(ok:bH P w H h) (e:Rd H a u):aZ P w H h a u:=e.ok ok
def jt {kvs:List (Key×V)}(ok:bH P w H h) (e:Rd H a (.dK kvs)):kvs.length<=sizeLine/\(a==sysModules)=false/\∃vs,KV kvs vs/\h.DictOf (a3 P w) a vs :=
 show aZ P w H h a (.dK kvs) from AY ok e
def AZ {kvs:List (Key×V)}(ok:bH P w H h) (e:H a=some (.dK kvs)):kvs.length<=sizeLine/\(a==sysModules)=false/\∃vs,KV kvs vs/\h.DictOf (a3 P w) a vs:=jt ok (.inl e)
def lT {ks:List Key}(ok:bH P w H h) (e:H a=some (.tup (ks.map kV))):(tupleKind (a3 P w)).is h ks a:=by
 obtain ⟨_,its,r,o,h1,h2,n,h3⟩:=(show aZ P w H h a (.tup (ks.map kV)) from ok a _ e)
 exact ⟨o,its.toArray,n,h1,h2,h3,by simpa using AX r⟩
def ko {kvs:List (List Key×V)}(ok:bH P w H h) (e:Rd H a (.dT kvs)):kvs.length<=sizeLine/\(a==sysModules)=false /\
  ∃xs,KT H kvs xs/\h.DictOfH (tupleKind (a3 P w)) a xs:=by
 obtain ⟨z,y,xs,r,o,es,ep,h1,h2,h3,h4,h5⟩:=(show aZ P w H h a (.dT kvs) from AY ok e)
 refine ⟨z,y,xs,r,o,es,ep,h1,h2,h3,h4,λx hx=>?_,h5⟩
 have all:∀{l:List (List Key×V)} {m:List (List Key×Addr×Value)},KT H l m->∀x∈m,(tupleKind (a3 P w)).is h x.1 x.2.1:=by
  intro l m q
  induction q with
  | nil=>intro x hx;exact nomatch hx
  | @cons p q ps qs hq t ih =>
   intro x hx
   rcases yL.mp hx with e|hx
   ·subst e
    exact lT ok (by rw [<-hq.1];exact hq.2.1)
   ·exact ih x hx
 exact all r x hx
def Jw {kvs:List (List Key×V)}(ok:bH P w H h) (e:H a=some (.dT kvs)):kvs.length<=sizeLine/\(a==sysModules)=false /\
  ∃xs,KT H kvs xs/\h.DictOfH (tupleKind (a3 P w)) a xs:=ko ok (.inl e)
end
def cQ (H:Hp) (a:Addr) (y:V) (r:Option V):Prop :=
 (∃kvs k,Rd H a (.dK kvs)/\y=kV k/\r=cG kvs k)\/∃kvs k b,Rd H a (.dT kvs)/\y=.ref b/\H b=some (.tup (k.map kV))/\r=cG kvs k
def fG (H:Hp) (a:Addr) (y v:V) (H':Hp):Prop :=
 (∃kvs k,H a=some (.dK kvs)/\y=kV k/\kvs.length<sizeLine/\H'=upd H a (.dK (putK kvs k v))) \/
 ∃kvs k b,H a=some (.dT kvs)/\y=.ref b/\H b=some (.tup (k.map kV))/\kvs.length<sizeLine/\H'=upd H a (.dT (putK kvs k v))
def cQ.k {H:Hp}{a:Addr}{kvs:List (Key×V)}{k:Key}(e:H a=some (.dK kvs)):cQ H a (kV k) (cG kvs k):=.inl ⟨kvs,k,.inl e,rfl,rfl⟩
def cQ.t {H:Hp}{a b:Addr}{kvs:List (List Key×V)}{k:List Key}(e:H a=some (.dT kvs)) (eb:H b=some (.tup (k.map kV))):cQ H a (.ref b) (cG kvs k):=.inr ⟨kvs,k,b,.inl e,rfl,eb,rfl⟩
def fG.k {H:Hp}{a:Addr}{kvs:List (Key×V)}{k:Key}{v:V}(e:H a=some (.dK kvs)) (hl:kvs.length<sizeLine):fG H a (kV k) v (upd H a (.dK (putK kvs k v))):=.inl ⟨kvs,k,e,rfl,hl,rfl⟩
def fG.t {H:Hp}{a b:Addr}{kvs:List (List Key×V)}{k:List Key}{v:V}(e:H a=some (.dT kvs)) (eb:H b=some (.tup (k.map kV))) (hl:kvs.length<sizeLine) :
  fG H a (.ref b) v (upd H a (.dT (putK kvs k v))):=.inr ⟨kvs,k,b,e,rfl,eb,hl,rfl⟩
section
variable {X:Cx}{pins:Ac}{σ:St}{H:Hp}{s:Shared}{a:Addr}{y v:V}{u r:Value}{o:Option V}{A:Around}{E:Aa}
def Inv.big (I:Inv X pins σ H s):sysModules<s.heap.objs.size:=by
 have h:mainGlobals<s.heap.objs.size:=(I.mod.glob.keeps I.bk).lt
 exact Nat.lt_trans (by decide) h
def Jx {Q:Aa}(hu:A.units+1<cLine) (I:Inv X pins σ H s) (g:cQ H a y (some v)) (ry:RelV y u) (h:∀w' s',Inv X pins σ H s'->RelV v w'->Q w' s') :
  wpAny (model X.prog X.w) A (getItem (.ref a) u) Q E s:=by
 rcases g with ⟨kvs,k,e,ey,l⟩|⟨kvs,k,b,e,ey,eb,l⟩
 ·subst ey
  obtain ⟨z,hd,vs,rel,dd⟩:=jt I.hok e
  obtain ⟨w',hw,rw'⟩:=bF.some_of (v:=v) (o:=valueAt vs k) (by rw [l];exact rel.val k)
  exact wpAny_getItem_of (kn ry) dd.mapOf hw (h w' _ (I.tok _) rw')
 ·subst ey
  cases (show u=Value.ref b from ry)
  obtain ⟨z,hd,xs,rel,dd⟩:=ko I.hok e
  obtain ⟨w',hw,rw'⟩:=bF.some_of (v:=v) (o:=(atKey xs k).map (·.2)) (by rw [l];exact rel.val k)
  obtain ⟨p,hp,nq⟩:=Option.map_eq_some_iff.mp hw
  refine wpAny_getItem_heap (tupleKind_room_in1 hu) (lT I.hok eb) dd hp ?_
  rw [nq]
  exact h w' _ (I.tok _) rw'
def Jy {Q:Aa}(hu:A.units+1<cLine) (I:Inv X pins σ H s) (g:cQ H a y o) (ry:RelV y u) (h:∀s',Inv X pins σ H s'->Q (.bool o.isSome) s') :
  wpAny (model X.prog X.w) A (compareOp .In u (.ref a)) Q E s:=by
 rcases g with ⟨kvs,k,e,ey,l⟩|⟨kvs,k,b,e,ey,eb,l⟩
 ·subst ey
  obtain ⟨z,hd,vs,rel,dd⟩:=jt I.hok e
  refine wpAny_in_of (kn ry) hd dd.mapOf ?_
  rw [<-(rel.val k).isSome_eq,<-l]
  exact h _ (I.tok _)
 ·subst ey
  cases (show u=Value.ref b from ry)
  obtain ⟨z,hd,xs,rel,dd⟩:=ko I.hok e
  refine wpAny_in_heap (tupleKind_room_in1 hu) (lT I.hok eb) hd dd ?_
  have q:=(rel.val k).isSome_eq
  rw [Option.isSome_map] at q
  rw [<-q,<-l]
  exact h _ (I.tok _)
def Jz {Q:Aa}(hu:A.units+1<cLine) (I:Inv X pins σ H s) (g:cQ H a y o) (ry:RelV y u) (h:∀s',Inv X pins σ H s'->Q (.bool (!o.isSome)) s') :
  wpAny (model X.prog X.w) A (compareOp .NotIn u (.ref a)) Q E s:=by
 rcases g with ⟨kvs,k,e,ey,l⟩|⟨kvs,k,b,e,ey,eb,l⟩
 ·subst ey
  obtain ⟨z,hd,vs,rel,dd⟩:=jt I.hok e
  refine wpAny_notIn_of (kn ry) hd dd.mapOf ?_
  rw [<-(rel.val k).isSome_eq,<-l]
  exact h _ (I.tok _)
 ·subst ey
  cases (show u=Value.ref b from ry)
  obtain ⟨z,hd,xs,rel,dd⟩:=ko I.hok e
  refine wpAny_notIn_heap (tupleKind_room_in1 hu) (lT I.hok eb) hd dd ?_
  have q:=(rel.val k).isSome_eq
  rw [Option.isSome_map] at q
  rw [<-q,<-l]
  exact h _ (I.tok _)
def sV {h':Heap}{t':Nat}{ob:HO}(I:Inv X pins σ H s) (mu:lE (H a)) (hs:Heap.SameBut a s.heap h') (he:∃q,h'.get? a=some q) (new:aZ X.prog X.w (upd H a ob) h' a ob) :
  Inv X pins σ (upd H a ob) { s with heap:=h',toks:=t' } :=
 I.write (x:=a) (e:=a) mu (.inl rfl) (λb q hb z=>(hs.2 b hb).trans z) he new
def A0 {P:Program}{w:World}{H':Hp}{h':Heap}{kvs:List (Key×V)}{vs:List (Key×Value)}(z:kvs.length<=sizeLine) (hd:(a==sysModules)=false) (rel:KV kvs vs) (dd:h'.DictOf (a3 P w) a vs) :
  aZ P w H' h' a (.dK kvs):=⟨z,hd,vs,rel,dd⟩
def JA {H':Hp}{Q:Unit->Shared->Prop}(hu:A.units+1<cLine) (I:Inv X pins σ H s) (g:fG H a y v H') (ry:RelV y u) (rv:RelV v r) (h:∀s',Inv X pins σ H' s'->Q () s') :
  wpAny (model X.prog X.w) A (setItem (.ref a) u r) Q E s:=by
 rcases g with ⟨kvs,k,e,ey,l,eH⟩|⟨kvs,k,b,e,ey,eb,l,eH⟩
 ·subst ey eH
  obtain ⟨z,hd,vs,rel,dd⟩:=AZ I.hok e
  have hz:vs.length<=sizeLine:=by rw [<-rel.length];exact z
  have hl:(putK kvs k v).length<=sizeLine:=by have:=sU kvs k v;omega
  refine wpAny_setItem_pairs (hsz:=hz) (kn ry) dd λh' ic hs=>h _ ?_
  have he:∃q,h'.get? a=some q:=let ⟨q,_,_,hq,_⟩:=ic;⟨q,hq⟩
  exact sV I (by rw [e];exact True.intro) hs he (A0 hl hd (rel.put k rv) ic)
 ·subst ey eH
  cases (show u=Value.ref b from ry)
  obtain ⟨z,hd,xs,rel,dd⟩:=Jw I.hok e
  have hz:xs.length<=sizeLine:=by rw [<-Paired.length rel];exact z
  have hl:(putK kvs k v).length<=sizeLine:=by have:=sU kvs k v;omega
  refine wpAny_setItem_heap (hsz:=hz) (tupleKind_room_in1 hu) (lT I.hok eb) dd λh' ic hs=>h _ ?_
  obtain ⟨q,es,ep,hq,h2,h3,h4,_,h5⟩:=ic
  refine sV I (by rw [e];exact True.intro) hs ⟨q,hq⟩ ⟨hl,hd,_,(rel.put k eb rv).keeps λc ys ec=>?_,q,es,ep,hq,h2,h3,h4,h5⟩
  rw [zM (Gq ec e (λz=>nomatch z))]
  exact ec
end
section
variable {X:Cx}{pins:Ac}{σ:St}{H:Hp}{s:Shared}{a:Addr}{kvs:List (Key×V)}{k:Key}{u:Value}{A:Around}{E:Aa}
def JB {Q:Aa} (I:Inv X pins σ H s) (e:Rd H a (.dK kvs)) (h:∀t s',Inv X pins σ H s'->Q (.int kvs.length t) s'):wpAny (model X.prog X.w) A (call (.builtin "len") [.ref a]) Q E s:=by
 obtain ⟨z,hd,vs,rel,dd⟩:=jt I.hok e
 refine call_len_dict hd dd (by rw [<-rel.length];rw [sizeLine_eq] at z;omega) ?_
 rw [<-rel.length]
 exact h _ _ (I.tok _)
end
def JC {X:Cx} {pins:Ac} {σ:St} {H:Hp} {s:Shared} {a:Addr} {y:V} {o:Option V} (I:Inv X pins σ H s) (g:cQ H a y o):s.TypeIs (.ref a) "dict" := by
 rcases g with ⟨kvs,k,e,_,_⟩|⟨kvs,k,b,e,_,_,_⟩
 ·obtain ⟨_,_,vs,_,dd⟩:=jt I.hok e
  exact dd.typeIs
 ·obtain ⟨_,_,xs,_,dd⟩:=ko I.hok e
  exact dd.typeIs
def JD (td ty tv:TE):TS:=λD σ H=>tv σ H λv H1=>td σ H1 λx H2=>ty σ H2 λy H3=>∃a H4,x=.ref a/\fG H3 a y v H4/\D.nx σ H4
section
variable {X:Cx}{o i e value:Expr}{pos pos' xJ:Pos}{td ty tv:TE}
def JE (hu:X.A.units+1<cLine) (ho:PE X o td) (hi:PE X i ty) (hv:PE X value tv) (hs:swapsWith value (some (.Subscript o i pos')) pos.line X.env=pure false) :
  PS X (.Assign [.Subscript o i pos'] value pos) (JD td ty tv):=by
 intro pins s σ H D I h
 refine wpAny_Assign_Subscript (aS (hv pins s σ H _ I h) λr s1 ⟨v,H1,I1,rv,q1⟩=>aS (ho pins s1 σ H1 _ I1 q1) λu s2 ⟨x,H2,I2,rx,q2⟩=>aS (hi pins s2 σ H2 _ I2 q2) λiv s3 ⟨y,H3,I3,ry,a,H4,ex,g,q3⟩=>?_) hs
 subst ex
 obtain rfl:u=Value.ref a:=rx
 exact JA hu I3 g ry rv λs4 I4=>⟨σ,H4,I4,q3⟩
end
def A4 {P:Program} {w:World} {H:Hp} (h:Heap) (hb:sysModules<h.objs.size):aZ P w H (h.push { cls:=.type "dict", data:=.dict #[] }) h.objs.size (.dK []) :=
 ⟨jk _,beq_eq_false_iff_ne.mpr (yw (yD hb)),[],.nil,Heap.DictOf.new h⟩
def JF:TE:=λ_ H Q=>∀p,H p=none->Q (.ref p) (upd H p (.dK []))
section
variable {X:Cx}{pos:Pos}
def JG:PE X (.Dict [] [] pos) JF:=λpins s σ H Q I h =>
 wpAny_Dict_empty ⟨.ref s.heap.objs.size,_,I.laid (a:=s.heap.objs.size) (o:=.dK []) (t':=s.toks) (λ_ _ q=>z9 _ q) (ya _) (A4 s.heap I.big),rfl,h _ (I.hok.fresh (ya _))⟩
end
def pS:List (TE×TE)->St->Hp->(List (V×V)->Hp->Prop)->Prop
 | [],_,H,Q=>Q [] H
 | (tk,tv)::r,σ,H,Q=>tk σ H λx H1=>tv σ H1 λy H2=>pS r σ H2 λps H3=>Q ((x,y)::ps) H3
abbrev VV:List (V×V)->List (Value×Value)->Prop:=Paired λp q=>RelV p.1 q.1/\RelV p.2 q.2
def nr (X:Cx) (pos:Pos) (keys:List (Option Expr)) (values:List Expr) (trs:List (TE×TE)):Prop :=
 ∀(pins:Ac) (s:Shared) (σ:St) (H:Hp) (Q:List (V×V)->Hp->Prop),Inv X pins σ H s->pS trs σ H Q ->
  wpAny (model X.prog X.w) X.A (evalPairs (pairTrees keys values X.env pos)) (λvs s'=>∃ps H',Inv X pins σ H' s'/\VV ps vs/\Q ps H') X.xe s
def JH {X:Cx}{pos:Pos}:nr X pos [] [] []:=λpins s σ H Q I h=>pairTrees_nil_walk ⟨[],H,I,.nil,h⟩
def JI {X:Cx}{pos:Pos}{k v:Expr}{ks:List (Option Expr)}{vs:List Expr}{tk tv:TE}{trs:List (TE×TE)}(hk:PE X k tk) (hv:PE X v tv) (hr:nr X pos ks vs trs) :
  nr X pos (some k::ks) (v::vs) ((tk,tv)::trs):=λpins s σ H Q I h =>
 pairTrees_cons_walk (aS (hk pins s σ H _ I h) λu s1 ⟨x,H1,I1,rx,q1⟩=>aS (hv pins s1 σ H1 _ I1 q1) λw2 s2 ⟨y,H2,I2,ry,q2⟩ =>
  aS (hr pins s2 σ H2 _ I2 q2) λws s3 ⟨ps,H3,I3,rel,q3⟩=>⟨(x,y)::ps,H3,I3,.cons ⟨rx,ry⟩ rel,q3⟩)
def dF (kvs more:List (Key×V)):List (Key×V):=more.foldl (λacc kv=>putK acc kv.1 kv.2) kvs
def KV.merge:∀{more:List (Key×V)}{rs:List (Key×Value)}{kvs:List (Key×V)}{vs:List (Key×Value)},KV more rs->KV kvs vs->KV (dF kvs more) (merged vs rs):=by
 intro more rs kvs vs r
 unfold KV at r
 induction r generalizing kvs vs with
 | nil=>intro q;exact q
 | @cons p q ps qs h t ih =>
  intro r0
  have e:KV (putK kvs p.1 p.2) (stored vs q.1 q.2):=by
   have:=r0.put p.1 h.2
   rw [<-h.1];exact this
  exact ih e
def A5:∀(more kvs:List (Key×V)),(dF kvs more).length<=kvs.length+more.length
 | [],kvs=>by show kvs.length<=kvs.length+0;omega
 | p::r,kvs=>by
  have h1:=A5 r (putK kvs p.1 p.2)
  have h2:=sU kvs p.1 p.2
  show (dF (putK kvs p.1 p.2) r).length<=_
  rw [wF];omega
def A6 {P:Program}{w:World}:∀{kvs:List (Key×V)}{ws:List (Value×Value)},VV (kvs.map λkv=>(kV kv.1,kv.2)) ws->∃rs,Carries (a3 P w) ws rs/\KV kvs rs
 | [],_,r=>by rw [List.map_nil] at r;cases r;exact ⟨[],True.intro,.nil⟩
 | p::kvs,_,r=>by
  rw [jB] at r
  cases r with
  | @cons a b as bs h t =>
   obtain ⟨rs,c,q⟩:=A6 (P:=P) (w:=w) t
   obtain ⟨b1,b2⟩:=b
   exact ⟨(p.1,b2)::rs,⟨kn h.1,rfl,c⟩,.cons ⟨rfl,h.2⟩ q⟩
def JJ (trs:List (TE×TE)):TE:=fun σ H Q=>∀p,H p=none->pS trs σ (upd H p (.dK [])) λps H2=>H2 p=some (.dK [])/\∃kvs:List (Key×V),ps=kvs.map (λkv=>(kV kv.1,kv.2))/\kvs.length<=15/\Q (.ref p) (upd H2 p (.dK (dF [] kvs)))
def JK {X:Cx}{pos:Pos}{keys:List (Option Expr)}{values:List Expr}{trs:List (TE×TE)}(h:nr X pos keys values trs) (ez:keys.all (·.isSome)=true) (hl:keys.length=values.length) (h0:keys≠[])
  (sW:keys.length<=15):PE X (.Dict keys values pos) (JJ trs):=by
 intro pins s σ H Q I q
 have hn:=I.hok.fresh (ya s.heap.objs.size)
 have I1:=I.laid (a:=s.heap.objs.size) (o:=.dK []) (h':=s.heap.push { cls:=.type "dict", data:=.dict #[] }) (t':=s.toks) (λ_ _ q=>z9 _ q) (ya _) (A4 s.heap I.big)
 refine wpAny_Dict_walk (knd:=a3 X.prog X.w) ez hl h0 sW (aS (h pins _ σ _ _ I1 (q _ hn)) λws s2 ⟨ps,H2,I2,rel,e,kvs,ep,lk,q2⟩=>?_)
 subst ep
 obtain ⟨rs,c,rk⟩:=A6 (P:=X.prog) (w:=X.w) rel
 obtain ⟨z,hd,kq,r0,dd⟩:=AZ I2.hok e
 cases r0
 refine ⟨rs,c,dd,λh' ic hs=>⟨.ref s.heap.objs.size,_,?_,rfl,q2⟩⟩
 have hz:(dF [] kvs).length<=sizeLine:=by
  have h1:=A5 kvs []
  rw [List.length_nil] at h1
  rw [sizeLine_eq];omega
 have he:∃q,h'.get? s.heap.objs.size=some q:=let ⟨q,_,_,hq,_⟩:=ic;⟨q,hq⟩
 exact sV I2 (by rw [e];exact True.intro) hs he (A0 hz hd (rk.merge .nil) ic)
structure M1 (X:Cx) (o:Expr) (m:Str) (apos:Pos) (e:Expr) (aV:Pos):Prop where
 base:attributeBase o m X.env (eval o X.env)=eval o X.env
 few:((backTo aV (starEach [e] X.env)).all (λx=>!x.1)&&(backToKw aV (keywordEach [] X.env)).all (λx=>x.1.isSome)
  && decide (([e]:List Expr).length+([]:List Keyword).length+(if ([]:List Keyword).isEmpty then 0 else 1)<30))=true
 line:(apos.endLine==aV.line)=true
 trees:backTo aV (starEach [e] X.env)=[(false,eval e X.env)]
structure M2 (X:Cx) (o:Expr) (m:Str) (apos:Pos) (e f:Expr) (aV:Pos):Prop where
 base:attributeBase o m X.env (eval o X.env)=eval o X.env
 few:((backTo aV (starEach [e,f] X.env)).all (λx=>!x.1)&&(backToKw aV (keywordEach [] X.env)).all (λx=>x.1.isSome)
  && decide (([e,f]:List Expr).length+([]:List Keyword).length+(if ([]:List Keyword).isEmpty then 0 else 1)<30))=true
 line:(apos.endLine==aV.line)=true
 trees:backTo aV (starEach [e,f] X.env)=[(false,eval e X.env),(false,eval f X.env)]
def A8 (H:Hp) (a:Addr):Prop:=(∃kvs,Rd H a (.dK kvs))\/∃kvs,Rd H a (.dT kvs)
def JL {X:Cx}{pins:Ac}{σ:St}{H:Hp}{s:Shared}{a:Addr}(I:Inv X pins σ H s) (d:A8 H a) :
  s.TypeIs (.ref a) "dict" /\ (∀b,Value.ref a=.ref b->∃ob,s.heap.get? b=some ob/\ob.dict=none)/\(a==sysModules)=false:=by
 rcases d with ⟨kvs,e⟩|⟨kvs,e⟩
 ·obtain ⟨_,hd,vs,_,dd⟩:=jt I.hok e
  refine ⟨dd.typeIs,λb q=>?_,hd⟩
  cases q
  obtain ⟨ob,_,_,h1,h2,_⟩:=dd
  exact ⟨ob,h1,h2.2.1⟩
 ·obtain ⟨_,hd,xs,_,dd⟩:=ko I.hok e
  refine ⟨dd.typeIs,λb q=>?_,hd⟩
  cases q
  obtain ⟨ob,_,_,h1,h2,_⟩:=dd
  exact ⟨ob,h1,h2.2.1⟩
section
variable {X:Cx}{pins:Ac}{σ:St}{H:Hp}{s:Shared}{a:Addr}{y d:V}{u r:Value}{o:Option V}{A:Around}{E:Aa}
def JM {Q:Aa}(hu:A.units+1<cLine) (I:Inv X pins σ H s) (g:cQ H a y o) (ry:RelV y u) (rd:RelV d r) (h:∀w' s',Inv X pins σ H s'->RelV (o.getD d) w'->Q w' s') :
  wpAny (model X.prog X.w) A (call (.builtin "dict.get") [.ref a,u,r]) Q E s:=by
 rcases g with ⟨kvs,k,e,ey,l⟩|⟨kvs,k,b,e,ey,eb,l⟩
 ·subst ey
  obtain ⟨z,hd,vs,rel,dd⟩:=jt I.hok e
  refine call_meetsIn PySem.F.slot_dict_get dd.typeIs PySem.F.entry_dict_get (PySem.F.args_dict_get_3 _ _ _) (meets_dict_get_default (a3 X.prog X.w) a (kn ry) hd r) ⟨_,dd.mapOf,h _ _ (I.tok _) ?_⟩
  rw [l]
  exact (rel.val k).getD rd
 ·subst ey
  cases (show u=Value.ref b from ry)
  obtain ⟨z,hd,xs,rel,dd⟩:=ko I.hok e
  refine call_meetsIn PySem.F.slot_dict_get dd.typeIs PySem.F.entry_dict_get (PySem.F.args_dict_get_3 _ _ _) (meetsH_dict_get_default (tupleKind (a3 X.prog X.w)) a b hd r) ⟨tupleKind_room_in1 hu,k,xs,lT I.hok eb,dd,h _ _ (I.tok _) ?_⟩
  rw [l]
  exact (rel.val k).getD rd
end
def JO (td ty tx:TE):TE:=fun σ H Q=>td σ H λx H1=>∃a,x=.ref a/\A8 H1 a/\ty σ H1 λy H2=>tx σ H2 λz H3=>∃o,cQ H3 a y o/\Q (o.getD z) H3
section
variable {X:Cx}{o e f:Expr}{apos aV:Pos}{td ty tx:TE}
def JP (hu:X.A.units+1<cLine) (ho:PE X o td) (he:PE X e ty) (hf:PE X f tx) (m:M2 X o "get" apos e f aV):PE X (.Call (.Attribute o "get" apos) [e,f] [] aV) (JO td ty tx):=by
 intro pins s σ H Q I h
 refine wpAny_Call_method m.base m.few m.line PySem.F.plainAttrs_dict PySem.F.slot_dict_get PySem.F.type_dict_get (aS (ho pins s σ H _ I h) λu s1 ⟨x,H1,I1,rx,a,ex,d,q1⟩=>?_)
 subst ex
 obtain rfl:u=Value.ref a:=rx
 obtain ⟨t1,t2,_⟩:=JL I1 d
 refine ⟨t1,t2,?_⟩
 rw [m.trees]
 refine Calls.callWith_builtin rfl (Calls.evalArgs_plain (Calls.spliced_cons (aS (he pins s1 σ H1 _ I1 q1) λiv s2 ⟨y,H2,I2,ry,q2⟩ =>
  Calls.spliced_cons (aS (hf pins s2 σ H2 _ I2 q2) λfv s3 ⟨z,H3,I3,rz,ov,g,q3⟩=>Calls.spliced_nil ?_))))
 exact JM hu I3 g ry rz λw' s4 I4 rw'=>⟨_,H3,I4,rw',q3⟩
end
section
variable {X:Cx}{pins:Ac}{σ:St}{H:Hp}{s:Shared}{a:Addr}{kvs:List (Key×V)}{A:Around}{E:Aa}
end
section
variable {X:Cx}{pins:Ac}{σ:St}{H:Hp}{s:Shared}{a:Addr}{y:V}{u:Value}{A:Around}{E:Aa}
end
def XO (h:Heap) (a:Addr) (C:Value) (d:Option Addr) (head:Value):Prop :=
 ∃oe vs,h.get? a=some oe/\oe.cls=C/\oe.dict=d/\oe.data=.fields vs/\vs.size=6/\vs[1]?=some head
def TB (h:Heap) (T:Addr) (fl:Value):Prop:=∃oT ts,h.get? T=some oT/\oT.data=.fields ts/\ts[3]?=some fl
def JQ (o:Obj) (f):(o.mapFields f).dict=o.dict:=by
 obtain ⟨c,d,dt,sl⟩:=o
 cases dt<;>rfl
def XO.keeps {h h':Heap}{a:Addr}{C:Value}{d:Option Addr}{head:Value}(x:XO h a C d head) (k:∀o,h.get? a=some o->h'.get? a=some o):XO h' a C d head:=by
 obtain ⟨oe,vs,e,r⟩:=x
 exact ⟨oe,vs,k _ e,r⟩
def TB.keeps {h h':Heap}{T:Addr}{fl:Value}(x:TB h T fl) (k:∀o,h.get? T=some o->h'.get? T=some o):TB h' T fl:=by
 obtain ⟨oT,ts,e,r⟩:=x
 exact ⟨oT,ts,k _ e,r⟩
def XO.set1 {h:Heap}{a:Addr}{C:Value}{d:Option Addr}{head:Value}(x:XO h a C d head) (u:Value):XO (h.update a (Obj.mapFields (·.setIfInBounds 1 u))) a C d u:=by
 obtain ⟨oe,vs,e,hc,lU,hd,hz,h1⟩:=x
 have eO:=Obj.data_mapFields hd (·.setIfInBounds 1 u)
 refine ⟨_,_,Heap.get?_update_self _ e (Obj.isFreed_of_fields eO),(Obj.cls_mapFields _ _).trans hc,(JQ _ _).trans lU,eO,?_,?_⟩
 ·rw [Array.size_setIfInBounds];exact hz
 ·have:1<vs.size:=by omega
  simp [this]
def TB.set3 {h:Heap}{T:Addr}{fl:Value}(x:TB h T fl) (u:Value):TB (h.update T (Obj.mapFields (·.setIfInBounds 3 u))) T u:=by
 obtain ⟨oT,ts,e,hd,h3⟩:=x
 have eO:=Obj.data_mapFields hd (·.setIfInBounds 3 u)
 refine ⟨_,_,Heap.get?_update_self _ e (Obj.isFreed_of_fields eO),eO,?_⟩
 have:3<ts.size:=(Array.getElem?_eq_some_iff.mp h3).1
 simp [this]
section
variable {M:Model}{A:Around}{E:Aa}{s:Shared}{base:Heap}{env:Env}{outer:List Env}{L a:Addr}{C:Value}{d:Option Addr}{head:Value}{Q:Unit->Shared->Prop}
def A9 {b2:Bool}(cZ:A.frames=some (env::outer)) (hl:s.heap.FunFrames base (env::outer)) (hf:env.frame=some L) (x:XO s.heap a C d head)
  (h:∀h' T,s.heap.objs.size<=T->XO h' a C d (.ref T)->TB h' T (rawInt L)->(∀b o,b≠a->b∉cA (env::outer)->s.heap.get? b=some o->h'.get? b=some o) ->
   (∀b o,b≠a->b∈cA (env::outer)->s.heap.get? b=some o->∃sl,h'.get? b=some { o with slots:=sl })->Q () { s with heap:=h' }) :
  wpAny M A (do let fr <-frameOf env;let pl <-entryPlaceOf L b2;let tb <-EntryCells.newEntry head fr .none (rawInt L) .none pl;setField (.ref a) 1 tb) Q E s:=by
 obtain ⟨oe,vs,e,hc,lU,hd,hz,h1⟩:=id x
 have aN:a∉cA (env::outer):=λhm=>by
  obtain ⟨_,o,ho,nf⟩:=hl.mem hm
  rw [e] at ho
  cases ho
  exact nf vs hd
 refine zl (wpAny_frameOf_fun cZ hl hf λg1 pU=>zl (wpAny_entryPlaceOf λpl A_=>?_))
 unfold EntryCells.newEntry newFields
 refine zl (jN ?_ (A_.sizeOk5 _ _ _ _ _))
 have x1:XO g1 a C d head:=⟨oe,vs,(pU.2.1 a aN).trans e,hc,lU,hd,hz,h1⟩
 generalize hob:({ cls:=.type "traceback", dict:=none,data:=.fields ([head,.ref L,.none,rawInt L,.none]++(if pl.isEmpty then List.replicate 6 Value.none else pl)).toArray }:Obj)=ob
 have x2:XO (g1.push ob) a C d head:=x1.keeps λo q=>z9 _ q
 obtain ⟨VD,gE,e2,_,_,hd2,VE,_⟩:=id x2
 refine wpAny_setField e2 hd2 (by omega) ?_
 have aT:g1.objs.size≠a:=λz=>by
  obtain ⟨_,_,q,_⟩:=x1
  have:=yh q
  rw [<-z] at this
  exact Nat.lt_irrefl _ this
 have Ba:s.heap.objs.size<=g1.objs.size:=Nat.le_of_eq pU.1.symm
 refine h _ g1.objs.size Ba (x2.set1 _) ?_ (λb o nb nf q=>?_) (λb o nb nf q=>?_)
 ·have t0:TB (g1.push ob) g1.objs.size (rawInt L):=by
   refine ⟨ob,_,yB _ (by rw [<-hob];rfl),by rw [<-hob],?_⟩
   rcases A_ with rfl|⟨_,_,_,_,_,_,_,rfl⟩<;>simp
  exact t0.keeps λo q=>(jO _ _ (yw aT)).trans q
 ·exact (jO _ _ (yw nb)).trans (z9 _ ((pU.2.1 b nf).trans q))
 ·obtain ⟨sl,z⟩:=pU.2.2 b o q
  exact ⟨sl,(jO _ _ (yw nb)).trans (z9 _ z)⟩
def JR (cZ:A.frames=some (env::outer)) (hl:s.heap.FunFrames base (env::outer)) (hf:env.frame=some L) (x:XO s.heap a C d head)
  (ht:head=.none\/∃T0,head=.ref T0/\T0≠a/\TB s.heap T0 .none)
  (h:∀h' T,s.heap.objs.size<=T->XO h' a C d (.ref T)->TB h' T (rawInt L)->(∀b o,b≠a->.ref b≠head->b∉cA (env::outer)->s.heap.get? b=some o->h'.get? b=some o) ->
   (∀b o,b∈cA (env::outer)->s.heap.get? b=some o->∃sl,h'.get? b=some { o with slots:=sl })->Q () { s with heap:=h' }) :
  wpAny M A (noteFrame (.ref a) env) Q E s:=by
 obtain ⟨oe,vs,e,hc,lU,hd,hz,h1⟩:=id x
 have aN:a∉cA (env::outer):=λhm=>by
  obtain ⟨_,o,ho,nf⟩:=hl.mem hm
  rw [e] at ho
  cases ho
  exact nf vs hd
 unfold noteFrame
 simp only [hf]
 refine zl (yQ e hd h1 ?_)
 rcases ht with rfl|⟨T0,rfl,nT,t0⟩
 ·rw [zF (by decide)]
  exact A9 cZ hl hf x λh' T k1 k2 k3 k4 k5=>h h' T k1 k2 k3 (λb o nb _ nf q=>k4 b o nb nf q) λb o hb q=>k5 b o (λz=>aN (z▸hb)) hb q
 ·obtain ⟨oT,ts,eT,hdT,h3⟩:=id t0
  have TN:T0∉cA (env::outer):=λhm=>by
   obtain ⟨_,o,ho,nf⟩:=hl.mem hm
   rw [eT] at ho
   cases ho
   exact nf ts hdT
  rw [zA (show (Value.ref T0 != Value.none)=true from by simp)]
  refine zl (yQ eT hdT h3 ?_)
  rw [zF (show ¬((Value.none==rawInt L)=true) from by simp [rawInt])]
  refine zl (wpAny_setField eT hdT (Array.getElem?_eq_some_iff.mp h3).1 ?_)
  have kr:∀b,b≠T0->(s.heap.update T0 (Obj.mapFields (·.setIfInBounds 3 Value.none))).get? b=s.heap.get? b:=λb hb=>jO _ _ (yw hb)
  refine A9 (s:={ s with heap:=s.heap.update T0 (Obj.mapFields (·.setIfInBounds 3 Value.none)) }) cZ (hl.of_keeps λb o hb nf=>⟨o,(kr b λq=>?_).trans hb,rfl⟩) hf (x.keeps λo q=>(kr a (yw nT)).trans q) λh' T k1 k2 k3 k4 k5 =>
   h h' T (by simpa using k1) k2 k3 (λb o nb nh nf q=>k4 b o nb nf ((kr b λz=>nh (by rw [z])).trans q)) λb o hb q=>k5 b o (λz=>aN (z▸hb)) hb ((kr b λz=>TN (z▸hb)).trans q)
  rw [q,eT] at hb
  cases hb
  exact nf ts hdT
def JS {T:Addr}{fl:Value}(x:XO s.heap a C d (.ref T)) (t:TB s.heap T fl) (ne:T≠a)
  (h:∀h',XO h' a C d (.ref T)->TB h' T .none->(∀b o,b≠T->s.heap.get? b=some o->h'.get? b=some o)->h'.objs.size=s.heap.objs.size->Q () { s with heap:=h' }):wpAny M A (setFlight (.ref a) none) Q E s:=by
 obtain ⟨oe,vs,e,_,_,hd,_,h1⟩:=id x
 obtain ⟨oT,ts,eT,hdT,h3⟩:=id t
 unfold setFlight
 refine zl (yQ e hd h1 ?_)
 rw [zA (show (Value.ref T != Value.none)=true from by simp)]
 refine wpAny_setField eT hdT (Array.getElem?_eq_some_iff.mp h3).1 ?_
 exact h _ (x.keeps λo q=>(jO _ _ ne).trans q) (t.set3 _) (λb o nb q=>(jO _ _ (yw nb)).trans q) (by simp)
end
def a6 (X:Cx) (pins:Ac) (H:Hp) (b:Addr):Prop :=
 H b=none/\X.s₀.heap.objs.size<=b/\b≠X.env.locals/\(∀x c,X.env.cells.lookup x=some c->c≠b)/\∀p∈X.pn++pins,p.1≠b
def a6.new {X:Cx}{pins:Ac}{σ:St}{H H':Hp}{s:Shared}{b:Addr}(I:Inv X pins σ H s) (hb:s.heap.objs.size<=b) (hn:H' b=none):a6 X pins H' b:=by
 obtain ⟨f0,f1,f2,f3,f4,f5⟩:=I.fpOk (H':=H') hb hn
 exact ⟨hn,y8 I.sz hb,f1,f4,f5⟩
def pV (X:Cx) (pins:Ac) (H:Hp) (h:Heap) (a C:Addr) (d:Option Addr):Prop :=
 ∃head,XO h a (.ref C) d head/\a6 X pins H a/\(head=.none\/∃T,head=.ref T/\T≠a/\TB h T .none/\a6 X pins H T)
def Throws (X:Cx) (E:XK):Prop:=∀(pins:Ac) (σ:St) (H:Hp) (s:Shared) (a C:Addr) (d:Option Addr),Inv X pins σ H s->pV X pins H s.heap a C d->E (.ref C) d H->X.xe (.ref a) s
def bV (P:Program) (w:World):dj:=λouter H s E e s'=>∃(a C T:Addr) (d:Option Addr) (H':Hp),e=.ref a/\s'.os=s.os/\AllBare s'.gens/\Un (cA outer) [] H H' s.heap s'.heap/\bH P w H' s'.heap /\
 XO s'.heap a (.ref C) d (.ref T)/\T≠a/\TB s'.heap T .none/\(s.heap.objs.size<=a/\H' a=none)/\(s.heap.objs.size<=T/\H' T=none)/\E (.ref C) d H'
def JU {X:Cx}{E:XK}(t:Throws X E):Passes (bV X.prog X.w) X E:=by
 rintro pins σ H s e s' I ⟨a,C,T,d,H',rfl,os,bare,un,hok,x,ne,tb,⟨a1,a2⟩,⟨t1,t2⟩,q⟩
 have I':Inv X pins σ H' s':=I.call' (ch:=[]) os un hok bare λb z=>absurd z (by simp)
 exact t pins σ H' s' a C d I' ⟨_,x,a6.new I a1 a2,.inr ⟨T,rfl,ne,tb,a6.new I t1 t2⟩⟩ q
def fH (a:Addr):Value->Ae
 | .ref T0=>[a,T0]
 | _=>[a]
def Bb (a:Addr) (v:Value):a∈fH a v:=by cases v<;>simp [fH]
def Bc (a T0:Addr):T0∈fH a (.ref T0):=by simp [fH]
section
variable {X:Cx}{pins:Ac}{σ:St}{H:Hp}{s:Shared}{a C:Addr}{d:Option Addr}{A:Around}{E:Aa}{Q:Unit->Shared->Prop}
def Be (I:Inv X pins σ H s) (cZ:A.frames=some X.stack) (a9:X.stack=X.env::X.outer) (hf:X.env.frame=some X.env.locals) (F:pV X pins H s.heap a C d)
  (h:∀s' T,Inv X pins σ H s'->XO s'.heap a (.ref C) d (.ref T)->T≠a->TB s'.heap T (rawInt X.env.locals)->a6 X pins H a->a6 X pins H T->Q () s'):wpAny (model X.prog X.w) A (noteFrame (.ref a) X.env) Q E s:=by
 obtain ⟨head,x,oa,ht⟩:=F
 have hl:s.heap.FunFrames X.base (X.env::X.outer):=a9▸I.stack
 have Bf:A.frames=some (X.env::X.outer):=cZ.trans (congrArg some a9)
 have Bg:cA (X.env::X.outer)=X.env.locals::X.fs:=by
  unfold cA
  rw [List.filterMap_cons,hf]
  rfl
 have gp:∀b∈X.env.locals::X.fs,H b=none:=λb hb=>I.stkFree b (by rw [a9,Bg];exact hb)
 have sX:∀b u,H b=some u->Value.ref b≠head:=λb u e z=>by
  rcases ht with rfl|⟨T0,rfl,_,_,r⟩
  ·cases z
  ·cases z
   rw [r.1] at e
   cases e
 refine JR Bf hl hf x (ht.imp id λ⟨T0,e1,e2,e3,_⟩=>⟨T0,e1,e2,e3⟩) λh' T k1 k2 k3 k4 k5=>?_
 rw [Bg] at k4 k5
 have oT:a6 X pins H T:=a6.new I k1 (I.hok.fresh k1)
 have neT:T≠a:=λz=>by
  obtain ⟨_,_,e,_⟩:=x
  have:=yh e
  rw [<-z] at this
  exact Nat.lt_irrefl _ (je this k1)
 refine h { s with heap:=h' } T ?_ k2 neT k3 oa oT
 refine I.step (g':=s.gens) (t':=s.toks) (d':=s.drawn) (ch:=fH a head) (λb hb=>?_) (λb o n1 n2 n3 e n=>k4 b o (λz=>n3 ?_) (λz=>n3 ?_) (λz=>(yL.mp z).elim n1 n2) e)
  (λb o n1 n2 n3 e n=>k5 b o (jh _ n2) e) (λ_ _ _ _ n=>n) (λb o n3 e=>?_) (λ_ _ e=>e) (λ_ _ _ e=>e) (λb ps e=>⟨#[],by rw [e];simp⟩) (λm hm=>?_) (λb u e=>?_) I.bare
 ·have own:a6 X pins H b:=by
   rcases ht with rfl|⟨T0,rfl,_,_,r⟩
   ·have z:b=a:=by simpa [fH] using hb
    rw [z];exact oa
   ·have z:b=a\/b=T0:=by simpa [fH] using hb
    rcases z with z|z
    ·rw [z];exact oa
    ·rw [z];exact r
  exact ⟨.inr own.2.1,own.2.2.1,own.2.2.2.1,own.2.2.2.2⟩
 ·rw [z]
  exact Bb a head
 ·rw [<-z]
  exact Bc a b
 ·by_cases hb:b∈X.env.locals::X.fs
  ·obtain ⟨sl,z⟩:=k5 b o hb e
   exact ⟨_,z⟩
  ·exact ⟨o,k4 b o (λz=>n3 (by rw [z];exact Bb a head)) (λz=>n3 (by rw [<-z];exact Bc a b)) hb e⟩
 ·obtain ⟨o,es,ep,ho,r⟩:=hm
  obtain ⟨sl,z⟩:=k5 _ o y3 ho
  exact ⟨_,es,ep,z,r⟩
 ·refine (I.hok b u e).stay (λc v hc q=>?_) (λ_ q=>q) λ_ _ q=>q
  have tr:∃u',H c=some u':=by
   rcases hc with z|z
   ·exact ⟨u,by rw [z];exact e⟩
   ·exact ⟨_,z⟩
  obtain ⟨u',eu⟩:=tr
  exact k4 c v (λz=>by rw [z,oa.1] at eu;cases eu) (sX c u' eu) (λz=>by rw [gp c z] at eu;cases eu) q
def sY {T:Addr}{fl:Value}(I:Inv X pins σ H s) (x:XO s.heap a (.ref C) d (.ref T)) (ne:T≠a) (tb:TB s.heap T fl) (oa:a6 X pins H a) (oT:a6 X pins H T)
  (h:∀s',Inv X pins σ H s'->XO s'.heap a (.ref C) d (.ref T)->TB s'.heap T .none->Q () s'):wpAny (model X.prog X.w) A (setFlight (.ref a) none) Q E s:=by
 refine JS x tb ne λh' k1 k2 k3 _=>h { s with heap:=h' } ?_ k1 k2
 exact I.turned (t':=s.toks) (it:=T) (λb o nb e=>k3 b o nb e) oT.1 oT.2.2.1 (.inr oT.2.1) oT.2.2.2.1 oT.2.2.2.2
end
section
variable {P:Program}{w:World}{K:PySem.W.Frag}{mg:Ab}{base:Heap}
def dk.okX {x qual:Str}{st:Stmt}{f:Addr}{fd:FuncData}{N ps:Ad}{k:Nat}{sp:Sp}(F:dk K x qual st f fd) (S:ax N ps (zE st)) (len:∀vs H Q E,sp vs H Q E->vs.length=ps.length)
  (d0:∀(aW:Value) (A:Around) (outer:List Env) (s:Shared) (H:Hp) (vs:List V) (Q:VK) (E:XK),aY k (A.deeper (envOfC qual (zE st) s.heap.objs.size f aW))->sp vs H Q E ->
   ∃t,bS (cY (bV P w) P w K mg base N qual (zE st) f aW A outer s H E) (jf st) t/\t { nx:=λ_ H'=>Q .non H',rt:=Q } (start N vs) H):a_ P w K mg base (bV P w) (k+1) f fd ps sp:=by
 obtain ⟨oc,od,kV,doc,pm,an,aW,ct,dZ,rfl,lk,dU⟩:=F.ex
 exact xT lk dU S len λA outer s H vs Q E hr f7=>d0 aW A outer s H vs Q E hr f7
end
end L2
namespace L2
open PySem PySem.Spec PyProof.Rows PySem.W PySem.Builtin PySem.Builtin.ObjectAttr
def JV (self:Value):refuseLoop self "__setattr__" [.type "ValueError", .type "Exception", .type "BaseException", .type "object"]=pure ():=by kernel_rfl
def b8:List Value->Bool
 | [.type a,.type b,.type c,.type d]=>a == "ValueError" && b == "Exception" && c == "BaseException" && d == "object"
 | .ref _::r=>b8 r
 | _=>false
def Bh (self:Value):∀{l:Af},b8 l=true->refuseLoop self "__setattr__" l=pure ()
 | [.type a,.type b,.type c,.type d],e=>by
  simp only [b8,js,beq_iff_eq] at e
  obtain ⟨⟨⟨rfl,rfl⟩,rfl⟩,rfl⟩:=e
  exact JV self
 | .ref c::r,e=>by
  rw [refuseLoop_ref]
  exact Bh self (by cases r<;>first|exact e|cases e)
def Bi:∀{l:Af},b8 l=true->l.contains (.type "object")=true
 | [.type a,.type b,.type c,.type d],e=>by
  simp only [b8,js,beq_iff_eq] at e
  obtain ⟨⟨⟨rfl,rfl⟩,rfl⟩,rfl⟩:=e
  simp
 | .ref c::r,e=>by
  rw [List.contains_cons,Bi (l:=r) (by cases r<;>first|exact e|cases e),Bool.or_true]
def eB (K:Frag) (C:Addr):Bool:=(clsIn K C).any λcd=>b8 cd.mro
section
variable {prog:Program}{w:World}{A:Around}{E:Aa}{K:Frag}{x C:Addr}{s:Shared}{R:Result->Shared->Prop}
def JW {ox:Obj}{od:Option Obj}{name:Str}{tk:Tok}{v:Value}(X:K.In s.heap) (I:InstAt s.heap x ox C od) (hp:eB K C=true) (ht:takerIn K C name=some none)
  (h:∀b,wpAny (model prog w) A.in1 (storeInOwnDict (.ref x) (.ref C) (.str name tk) name v b)
   (λfin s'=>match fin with | .done f=>R (.ok f) s' | .again c'=>c'.quiet=true/\codeAny (model prog w) A c' R s') (λe s'=>R (.error e) s') s) :
  codeAny (model prog w) A (.call (.builtin "object.__setattr__") ⟨[.ref x,.str name tk,v],[]⟩) R s:=by
 have SO:=PySem.F.store_object
 obtain ⟨cd,hc,ho⟩:=any_some hp
 have ne:cd.mro.isEmpty=false:=by
  cases q:cd.mro with
  | nil=>rw [q] at ho;cases ho
  | cons _ _=>rfl
 have JX:Looks (model prog w) s.heap (isInstance (.ref x) (.type "object")) true:=I.type.andThen (looks_mroIn X (by unfold mroIn;rw [hc,Option.bind_some,zF (by rw [ne];decide),Bi ho]))
 refine codeAny_call_builtin SO.slot.plain SO.entry (@check_slot (model prog w) _ _ s "object.__setattr__" "object" "__setattr__" (.ref x) [.str name tk,v] [] _ SO.kind SO.split JX (SO.args (.ref x) (.str name tk) v) ?_)
 obtain ⟨attr,ha,hr⟩:=Option.bind_eq_some_iff.mp ht
 have mr:Looks (model prog w) s.heap (mroOf (.ref C)) cd.mro:=(looks_clsIn X hc).andThen .now
 have JY:Looks (model prog w) s.heap (storeTaker? attr) none:=by
  cases attr with
  | none=>exact .now
  | some a =>
   obtain ⟨b,hb,e⟩:=Option.map_eq_some_iff.mp hr
   refine (looks_takesIn X hb).andThen ?_
   cases b with
   | true=>cases e
   | false=>exact .now
 rw [osa_eq,refuse_eq]
 refine zl (zl (I.type.here (zl (mr.here ?_))))
 rw [Bh _ ho]
 refine zG (zl (I.type.here (zl ((looks_findIn X ha).here (zl (JY.here ?_))))))
 exact h _
def JZ {t:Addr}{name:Str}{v:Value}{Q:Unit->Shared->Prop}(X:K.In s.heap) (he:s.heap.get? x=some { cls:=.ref C,data:=.fields #[.ref t,.none,.none,.none,.bool false,.none] })
  (hs:findIn K (.ref C) "__setattr__" = some (some (.builtin "object.__setattr__"))) (hp:eB K C=true) (ht:takerIn K C name=some none) (hh:hasDictIn K C=true)
  (h:∀h',h'.get? x=some { cls:=.ref C,dict:=some s.heap.objs.size,data:=.fields #[.ref t,.none,.none,.none,.bool false,.none] }->h'.Ns1 s.heap.objs.size (λy=>if y=name then some v else none) ->
   (∀b o,b≠x->s.heap.get? b=some o->h'.get? b=some o)->∀tk,Q () { s with heap:=h',toks:=tk }):wpAny (model prog w) A (setAttr (.ref x) name v) Q E s:=by
 have J:InstAt s.heap x { cls:=.ref C,data:=.fields #[.ref t,.none,.none,.none,.bool false,.none] } C none:=⟨he,rfl,rfl,trivial⟩
 refine set_plain X J hs (JW (s:={ s with toks:=s.toks+1 }) X J hp ht λb=>?_)
 obtain ⟨cd,hc,eO⟩:=any_some hh
 have xl:=yh he
 refine zl (zG (zl (zl (wpAny_loadPart he (zl (Looks.here (s:={ s with toks:=s.toks+1 }) (looks_clsIn X hc) ?_))))))
 rw [eO]
 show wpAny (model prog w) A.in1 (do
  let d <-alloc { cls:=.type "dict", data:=.dict #[] }
  update x λo=>{ o with dict:=some d }
  dictMade (.ref C) x d) _ _ _
 refine zl (wpAny_alloc (zl (wpAny_update (z9 _ he) ?_)))
 refine zG (a:=some s.heap.objs.size) (zl (zG (zl ?_)))
 have xn:s.heap.objs.size≠x:=Nat.ne_of_gt xl
 have ex:((s.heap.push { cls:=.type "dict", data:=.dict #[] }).update x λo=>{ o with dict:=some s.heap.objs.size }).get? x=some { cls:=.ref C,dict:=some s.heap.objs.size,data:=.fields #[.ref t,.none,.none,.none,.bool false,.none] } :=
  Heap.get?_update_self _ (z9 _ he) rfl
 have ed:((s.heap.push { cls:=.type "dict", data:=.dict #[] }).update x λo=>{ o with dict:=some s.heap.objs.size }).get? s.heap.objs.size=some { cls:=.type "dict", data:=.dict #[] } :=
  (jO _ _ (yw xn)).trans (yB _ rfl)
 have en:((s.heap.push { cls:=.type "dict", data:=.dict #[] }).update x λo=>{ o with dict:=some s.heap.objs.size }).Ns1 s.heap.objs.size (λ_=>none) :=
  Heap.Ns1.of_empty ⟨_,#[],_,ed,rfl,(λe he=>absurd he (by simp)),λ_=>rfl⟩
 refine wpAny_nsSet1 (s:={ s with heap:=(s.heap.push { cls:=.type "dict", data:=.dict #[] }).update x λo=>{ o with dict:=some s.heap.objs.size },toks:=s.toks+1 }) en λh' du dW=>?_
 obtain ⟨oD,HU,HV,se,sf,sg⟩:=du.count (PySem.Within.cons (ns:=[]) name v λy hy=>absurd rfl hy)
 refine zl (wpAny_lookBehind se (by rw [sf];exact pastItsLine_dict (y8 sg (by simp))) ?_)
 refine zG (h h' ((dW.2 x (yw xn)).trans ex) du (λb o nb e=>(dW.2 b (yD (yh e))).trans ((jO _ _ (yw nb)).trans (z9 _ e))) _)
end
section
variable {prog:Program}{w:World}{A:Around}{h:Heap}{g:Array GenState}{d:Drawn}{t:Nat}{os:OsState}{R:Result->Shared->Prop}
variable {nm q:Str}{C N f:Addr}{bs bm sZ:Af}{b9:Bool}{sn:Ad}{sub:Af}{ab:Bool}{col:Option Bool}{dd:Option Addr}{k0 k1 k2 k3 k5:Option Value}{B newId lg:String}
def J1 (F:ExcBaseFacts B newId lg sZ) (T:OwnTail h sZ bm) {mN:Ab}{rest:Af}
  (hC:h.get? C=some (excClassObj nm q C N bs bm b9 sn sub ab col dd k0 k1 k2 k3 k5 newId)) (hn:h.Ns N mN) (hi:mN "__init__" = some (.ref f))
  (hb:∀self,Looks (model prog w) h (bindSpecial (.ref f) self) (.ref f,[self])) (fI:rest.length<=sizeLine)
  (hq:codeAny (model prog w) (A.under (.builtin "type.__call__" ⟨.ref C::rest,[]⟩)) (.call (.ref f) ⟨.ref (h.objs.size+1)::rest,[]⟩) (InitBack (h.objs.size+1) R)
   ⟨(h.push { cls:=.type "tuple", data:=.seq rest.toArray }).push { cls:=.ref C,data:=.fields #[.ref h.objs.size,.none,.none,.none,.bool false,.none] },g,d,t,os⟩) :
  codeAny (model prog w) A (.call (.ref C) ⟨rest,[]⟩) R ⟨h,g,d,t,os⟩:=by
 have u1:=tc_lookup
 have u2:=tc_bind (.ref C)
 have hT:(⟨h,g,d,t,os⟩:Shared).TypeIs (.ref C) "type" := ⟨_,hC,rfl⟩
 refine codeAny_of_tree ?_
 show wpAny _ _ (callAny (.ref C) _) _ _ _
 repeat (any_goals (first|assumption|with_reducible refine wpAny_loadPart_at hC ?_|wp_step))
 refine ⟨rfl,codeAny_call_builtin_at (Code.quiet_builtin _ (by decide +kernel)) entry_typeCall (wpAny_check_type_call_sub hC ?_)⟩
 repeat (first|with_reducible refine wpAny_loadPart_at hC ?_|with_reducible refine wpAny_madeBy_exc hC ?_|wp_step)
 refine codeAny_call_builtin_code (Code.quiet_builtin _ F.quiet) (wpAny_check_new_subT F T hC (codeAny_exc_new_subT F T hC ?_ fI))
 change wpAny (model prog w) (A.under (.builtin "type.__call__" ⟨.ref C::rest,[]⟩)) _ _ _ ⟨(h.push { cls:=.type "tuple", data:=.seq rest.toArray }).push { cls:=.ref C,data:=.fields #[.ref h.objs.size,.none,.none,.none,.bool false,.none] },g,d,t,os⟩
 generalize hg2:(h.push { cls:=.type "tuple", data:=.seq rest.toArray }).push { cls:=.ref C,data:=.fields #[.ref h.objs.size,.none,.none,.none,.bool false,.none] }=h2 at hq ⊢
 have kp:∀b o,h.get? b=some o->h2.get? b=some o:=λb o e=>hg2▸z9 _ (z9 _ e)
 have gx:h2.get? (h.objs.size+1)=some { cls:=.ref C,data:=.fields #[.ref h.objs.size,.none,.none,.none,.bool false,.none] }:=by
  rw [<-hg2]
  heap_get
 have C2:=kp _ _ hC
 have T2:=T.keeps kp
 have n2:=hn.keeps kp
 have cC:(Value.ref C::bm).contains (.ref C)=true:=by simp
 unfold isInstance
 repeat (first|with_reducible refine wpAny_loadPart_at gx ?_|(with_reducible refine wpAny_isSubtype_exc C2 ?_;rw [cC])|wp_step)
 show wpAny _ _ (typeLookup (.ref C) _) _ _ _
 refine wpAny_typeLookup_tail C2 n2 T2 F.mroIs F.init.lookup ?_
 rw [hi]
 refine jU (zl (((hb _).keeps kp).here (s:=⟨h2,g,d,t,os⟩) (zl (wpAny_call (codeAny_mono hq λr s' z=>?_)))))
 cases r with
 | error e=>exact z
 | ok fl =>
  cases fl with
  | ret v =>
   obtain ⟨rfl,z⟩:=z
   exact zG (zG z)
  | next=>exact z.elim
  | brk=>exact z.elim
  | cont=>exact z.elim
end
def fJ (C t:Addr) (d:Option Addr) (a:Addr):HO:=.ext λ_ _ h=>h.get? a=some { cls:=.ref C,dict:=d,data:=.fields #[.ref t,.none,.none,.none,.bool false,.none] }
structure ku (K:PySem.W.Frag) (C:Addr) (f:Str):Prop where
 sa:PySem.W.findIn K (.ref C) "__setattr__" = some (some (.builtin "object.__setattr__"))
 line:eB K C=true
 no:PySem.W.takerIn K C f=some none
 hd:PySem.W.hasDictIn K C=true
def Bj (K:PySem.W.Frag) (ta tv:TE) (f:Str):TS:=λD σ H=>tv σ H λy H1=>ta σ H1 λx H2=>∃a C t,x=.ref a/\H2 a=some (fJ C t none a)/\ku K C f /\
 ∀d,H2 d=none->D.nx σ (upd (upd H2 d (.xd [(f,y)])) a (fJ C t (some d) a))
def J2 {X:Cx}{o value:Expr}{f:Str}{pos pos':Pos}{ta tv:TE}(ha:PE X o ta) (hv:PE X value tv) (hs:swapsWith value (some (.Attribute o f pos')) pos.line X.env=pure false):PS X (.Assign [.Attribute o f pos'] value pos) (Bj X.K ta tv f):=by
 intro pins s σ H D I h
 refine plainObj_wpAny_Assign_Attribute (aS (hv pins s σ H _ I h) λu s1 ⟨y,H1,I1,ry,q⟩=>aS (ha pins s1 σ H1 _ I1 q) λov s2 ⟨x,H2,I2,rx,a,C,t,ex,ea,c,q2⟩=>?_) hs
 subst ex
 obtain rfl:ov=Value.ref a:=rx
 have he:s2.heap.get? a=some { cls:=.ref C,dict:=none,data:=.fields #[.ref t,.none,.none,.none,.bool false,.none] }:=(I2.hok a _ ea).1
 refine JZ I2.kIn he c.sa c.line c.no c.hd λh' g1 g2 g3 tk=>?_
 have fr:H2 s2.heap.objs.size=none:=I2.hok.fresh (ya _)
 have na:a≠s2.heap.objs.size:=yD (yh he)
 refine ⟨σ,_,?_,q2 s2.heap.objs.size fr⟩
 have old:∀b o,s2.heap.get? b=some o->b≠s2.heap.objs.size:=λb o e=>yD (yh e)
 have nu:∀b,H2 b=none->b≠a:=λb n z=>by rw [z,ea] at n;cases n
 have gi:∀b,b≠a->b≠s2.heap.objs.size->(upd (upd H2 s2.heap.objs.size (.xd [(f,y)])) a (fJ C t (some s2.heap.objs.size) a)) b=H2 b:=λb n1 n2=>by rw [zM n1,zM n2]
 have nv:∀b u,H2 b=some u->b≠s2.heap.objs.size:=λb u e z=>by rw [z,fr] at e;cases e
 refine I2.un (t':=tk) ⟨λb o e n _ _=>g3 b o (nu b n) e,λb o e n _ _=>⟨o.slots,g3 b o (nu b n) e⟩,λb o e n _=>by rw [gi b (nu b n) (old b o e)];exact n,λb o e _=>?_,λb xs e=>?_,λb o u e=>?_,λb ps e=>?_⟩ λb uo e=>?_
 ·by_cases z:b=a
  ·exact ⟨_,z▸g1⟩
  ·exact ⟨o,g3 b o z e⟩
 ·have z:b≠a:=λz=>by rw [z,ea] at e;cases e
  rw [gi b z (nv b _ e)];exact e
 ·have z:b≠a:=λz=>by rw [z,ea] at e;cases e
  rw [gi b z (nv b _ e)];exact e
 ·have z:b≠a:=λz=>by rw [z,ea] at e;cases e
  exact ⟨#[],by rw [gi b z (nv b _ e),e];simp⟩
 ·by_cases z:b=a
  ·rw [z] at e ⊢
   rw [yC] at e
   cases e
   exact ⟨g1,⟨_,g1⟩,λh1 h2 p k=>k _ p⟩
  ·rw [zM z] at e
   by_cases z2:b=s2.heap.objs.size
   ·rw [z2] at e ⊢
    rw [yC] at e
    cases e
    refine ⟨_,g2,λn=>?_⟩
    show bF (List.lookup n [(f,y)]) (if n=f then some u else none)
    rw [yE]
    by_cases w':n=f
    ·rw [zA w',w',beq_self_eq_true]
     exact ry
    ·rw [zF w',beq_eq_false_iff_ne.mpr w']
     exact True.intro
   ·rw [zM z2] at e
    refine (I2.hok b uo e).stay (λc v hc w'=>g3 c v ?_ w') (λc w'=>?_) λc xs w'=>?_
    ·rcases hc with w2|w2
     ·rw [w2];exact z
     ·intro w3
      rw [w3,ea] at w2
      cases w2
    ·have n1:c≠a:=λw3=>by rw [w3,ea] at w';cases w'
     rw [gi c n1 (nv c _ w')];exact w'
    ·have n1:c≠a:=λw3=>by rw [w3,ea] at w';cases w'
     rw [gi c n1 (nv c _ w')];exact w'
abbrev cS:Af:=[.type "ValueError", .type "Exception", .type "BaseException", .type "object"]
def J3 {K:Frag}{h:Heap}{N:Addr}{mN:Ab}{n:Str}{v:Value}(X:K.In h) (G:h.Ns N mN) (e:nsIn K N n=some (some v)):mN n=some v:=by
 obtain ⟨o,es,ep,ho,hd,_,hf⟩:=G
 unfold nsIn at e
 split at e
 ·rename_i q
  have:=X _ _ q
  rw [ho] at this
  cases this
  cases hd
  split at e
  ·rename_i he
   cases e
   rw [<-hf]
   unfold nsFind findBy
   rw [<-Array.find?_toList,he]
   rfl
  ·split at e<;>cases e
 ·cases e
structure fK (K:Frag) (C:Addr):Prop where
 ob:∃nm q N bs bm b9 sn sub ab col dd k0 k1 k2 k3 k5,K.lookup C=some (excClassObj nm q C N bs bm b9 sn sub ab col dd k0 k1 k2 k3 k5 "ValueError.__new__")/\tailIn K cS bm=true/\nsOkIn K N=true
 kp:keepIn K (.ref C)=true
structure eD (K:Frag) (C f:Addr):Prop where
 ob:∃nm q N bs bm b9 sn sub ab col dd k0 k1 k2 k3 k5,K.lookup C=some (excClassObj nm q C N bs bm b9 sn sub ab col dd k0 k1 k2 k3 k5 "ValueError.__new__")/\tailIn K cS bm=true/\nsOkIn K N=true/\nsIn K N "__init__" = some (some (.ref f))
 fn:isFn K (.ref f)=true
 kp:keepIn K (.ref C)=true
def eD.of {K:Frag}{C f:Addr}(x:eD K C f):fK K C:=by
 obtain ⟨⟨nm,q,N,bs,bm,b9,sn,sub,ab,col,dd,k0,k1,k2,k3,k5,a,b,c,_⟩,_,k⟩:=x
 exact ⟨⟨nm,q,N,bs,bm,b9,sn,sub,ab,col,dd,k0,k1,k2,k3,k5,a,b,c⟩,k⟩
def del (H:Hp) (a:Addr):Hp:=λb=>if b=a then none else H b
def s8 {H:Hp}{a:Addr}:del H a a=none:=zA rfl
def ky {H:Hp}{a b:Addr}(h:b≠a):del H a b=H b:=zF h
def J4 {H:Hp}{a:Addr}{o:HO}(h:H a=none):del (upd H a o) a=H:=by
 funext b
 by_cases z:b=a
 ·rw [z,s8,h]
 ·rw [ky z,zM z]
def J5 {H:Hp}{a b:Addr}{o o':HO}(n:a≠b):upd (upd H a o) b o'=upd (upd H b o') a o:=by
 funext c
 by_cases z:c=a
 ·rw [z,zM n,yC,yC]
 ·by_cases z2:c=b
  ·rw [z2,yC,zM (yw n),yC]
  ·rw [zM z2,zM z,zM z,zM z2]
def Inv.drop {X:Cx}{pins:Ac}{σ:St}{H:Hp}{s:Shared}{a:Addr}{φ:Program->World->Heap->Prop}(I:Inv X pins σ H s) (ha:H a=some (.ext φ)):Inv X pins σ (del H a) s:=by
 have ne:∀b u,H b=some u->(∀φ,u ≠ .ext φ)->b≠a:=λb u e n z=>by
  rw [z,ha] at e
  cases e
  exact n _ rfl
 have t:Inv X pins σ (del H a) { s with heap:=s.heap,toks:=s.toks }:=I.un ⟨λb o e _ _ _=>e,λb o e _ _ _=>⟨o.slots,e⟩,λb o e n _=>?_,λb o e _=>⟨o,e⟩,λb xs e=>?_,λb o u e=>?_,λb ps e=>?_⟩ λb u e=>?_
 ·exact t
 ·unfold del
  split<;>first|rfl|exact n
 ·rw [ky (ne b _ e λ_ z=>by cases z)];exact e
 ·rw [ky (ne b _ e λ_ z=>by cases z)];exact e
 ·exact ⟨#[],by rw [ky (ne b _ e λ_ z=>by cases z),e];simp⟩
 ·have z:b≠a:=λz=>by rw [z,s8] at e;cases e
  rw [ky z] at e
  refine (I.hok b u e).stay (λ_ _ _ q=>q) (λc q=>?_) λc xs q=>?_
  ·rw [ky (ne c _ q λ_ z=>by cases z)];exact q
  ·rw [ky (ne c _ q λ_ z=>by cases z)];exact q
section
variable {M:Model}{A:Around}{E:Aa}{env:Env}{s:Shared}
def J6 {K:Frag}{x:Sem Value}{Q:Flow->Shared->Prop}(hh:A.handled=none)
  (h:wpAny M A x (λv ak=>∃e C t d,v=.ref e/\K.In ak.heap/\fK K C/\ak.heap.get? e=some { cls:=.ref C,dict:=d,data:=.fields #[.ref t,.none,.none,.none,.bool false,.none] }/\E (.ref e) ak) E s):wpAny M A (raiseStmt env (some x) none) Q E s:=by
 unfold raiseStmt
 refine zl (yV h (λv ak au=>?_) λ_ _ x=>x)
 obtain ⟨e,C,tt,dx,rfl,kin,⟨⟨nm,q,N,bs,bm,b9,sn,sub,ab,col,dd,k0,k1,k2,k3,k5,hC,ht,_⟩,_⟩,he,hE⟩:=au
 have hC:=kin _ _ hC
 have bX:bm.contains (.type "BaseException")=true:=(tail_of_in kin ht).hasType (by decide)
 have J7:(Value.ref C::bm).contains (.type "BaseException")=true:=by rw [List.contains_cons,bX,Bool.or_true]
 obtain ⟨hp,g,d,tk,os⟩:=ak
 repeat (first|with_reducible refine wpAny_loadPart_at he ?_|with_reducible refine wpAny_loadPart_at hC ?_|(with_reducible refine wpAny_isSubtype_exc hC ?_;rw [J7])|wp_step)
 exact wpAny_raiseNew_none hh hE
end
section
variable {X:Cx}{CX:dj}{k:Nat}{f C:Addr}{fd:FuncData}{ps:Ad}{sp:Sp}{E:XK}
def J8 {pins:Ac}{σ:St}{H:Hp}{s:Shared}{Q:VK}{us:Af}{vs:List V}(M:eD X.K C f) (F:a_ X.prog X.w X.K X.mg X.base CX k f fd ps sp) (hr:aY (k+1) X.A) (hb:Binds X.K fd ps [])
  (hx:Passes CX X E) (I:Inv X pins σ H s) (r:Vals vs us) (hz:us.length<=sizeLine)
  (h:∀x t,a6 X pins H x->sp (.ref x::vs) (upd H x (fJ C t none x)) (λv H2=>v=.non/\Q (.ref x) H2) E) :
  wpAny (model X.prog X.w) X.A (call (.ref C) us) (EP X pins σ Q) X.xe s:=by
 obtain ⟨⟨nm,q,N,bs,bm,b9,sn,sub,ab,col,dd,k0,k1,k2,k3,k5,hC,ht,hok,hi⟩,mQ,_⟩:=M
 have Bk:s.heap.objs.size<=s.heap.objs.size+1:=Nat.le_succ _
 have J9:H (s.heap.objs.size+1)=none:=I.hok.fresh Bk
 have hq:=h (s.heap.objs.size+1) s.heap.objs.size (a6.new I Bk J9)
 let o1:Obj:={ cls:=.type "tuple", data:=.seq us.toArray }
 let o2:Obj:={ cls:=.ref C,data:=.fields #[.ref s.heap.objs.size,.none,.none,.none,.bool false,.none] }
 have e2:((s.heap.push o1).push o2).get? (s.heap.objs.size+1)=some o2:=by
  have:=yB (s.heap.push o1) (o:=o2) rfl
  rwa [Heap.size_push] at this
 have I1:Inv X pins σ H { s with heap:=s.heap.push o1,toks:=s.toks }:=I.kept λb u q=>z9 _ q
 have I2:Inv X pins σ (upd H (s.heap.objs.size+1) (fJ C s.heap.objs.size none (s.heap.objs.size+1))) { s with heap:=(s.heap.push o1).push o2 } :=
  I1.laid (a:=s.heap.objs.size+1) (o:=fJ C s.heap.objs.size none (s.heap.objs.size+1)) (t':=s.toks) (λb u q=>z9 _ q) (Nat.le_of_eq (Heap.size_push _ _)) ⟨e2,⟨_,e2⟩,λh1 h2 p k=>k _ p⟩
 have r2:Vals (V.ref (s.heap.objs.size+1)::vs) (Value.ref (s.heap.objs.size+1)::us):=.cons rfl r
 have hl:(Value.ref (s.heap.objs.size+1)::us++[]).length=ps.length:=by
  have e:=r2.length
  rw [F.len _ _ _ _ hq] at e
  rw [List.append_nil]
  exact e.symm
 have Bl:=hb { s with heap:=(s.heap.push o1).push o2 } (Value.ref (s.heap.objs.size+1)::us) I2.kIn hl
 rw [List.append_nil] at Bl
 obtain ⟨hp,g,d,tk,os⟩:=s
 refine wpAny_call (J1 (f:=f) PySem.F.excBase_ValueError (tail_of_in I.kIn ht) (I.kIn _ _ hC) (.of_isNs (isNs_of_in I.kIn hok)) (J3 I.kIn (.of_isNs (isNs_of_in I.kIn hok)) hi)
  (λself=>bind_fn I.kIn self (beq_iff_eq.mp mQ)) hz (codeAny_mono (F.run _ X.stack _ _ ⟨Value.ref (hp.objs.size+1)::us,[]⟩ (Value.ref (hp.objs.size+1)::us) _ _ E (hr.make C us [])
  (I2.env0.make C us []) Bl r2 hq) λr s' hq'=>?_))
 cases r with
 | error e=>exact hx pins σ _ _ e s' I2 hq'
 | ok fl =>
  cases fl with
  | ret u =>
   obtain ⟨v,H',I3,rv,ev,q3⟩:=I2.after hq'
   subst ev
   exact ⟨rv,⟨V.ref (hp.objs.size+1),H',I3,rfl,q3⟩⟩
  | next=>exact hq'.elim
  | brk=>exact hq'.elim
  | cont=>exact hq'.elim
def Bm (C:Addr) (f:Str):Sp:=λvs H Q _=>∃a t y,vs=[.ref a,y]/\H a=some (fJ C t none a)/\∀d,H d=none->Q .non (upd (upd H d (.xd [(f,y)])) a (fJ C t (some d) a))
def J_ (C:Addr) (f:Str) (te:TE) (Er:XK):TS:=λ_ σ H=>te σ H λy H1=>∀d,H1 d=none->Er (.ref C) (some d) (upd H1 d (.xd [(f,y)]))
def Ka {x fld:Str}{e:Expr}{te:TE}{np aV pos:Pos}{Er:XK}(he:PE X e te) (M:eD X.K C f) (F:a_ X.prog X.w X.K X.mg X.base CX k f fd ps (Bm C fld)) (hr:aY (k+1) X.A) (hg:Gl X x) (hm:X.mg x=some (.ref C))
  (hb:Binds X.K fd ps []) (hx:Passes CX X Er) (ht:Throws X Er) (hc:X.calm=true) (cf:(x==("__debug__" : Str))=false:=by decide)
  (hs:starEach [e] X.env=(false,eval e X.env)::starEach [] X.env:=by rfl):PS X (.Raise (some (.Call (.Name x np) [e] [] aV)) none pos) (J_ C fld te Er):=by
 intro pins s σ H D I h
 rw [arm_exec_Raise]
 refine zl (wpAny_standAt ?_)
 refine J6 (K:=X.K) (I.ok.hd hc) ?_
 refine zl (aS (Q:=EP X pins σ λv H2=>∃a t d,v=.ref a/\a6 X pins (del H2 a) a/\H2 a=some (fJ C t (some d) a)/\Er (.ref C) (some d) (del H2 a)) ?_ λu s1 ⟨v,H2,I2,rv,a,t,d,ev,ow,ha,q⟩=>zl (wpAny_standAt (zG ?_)))
 ·refine wpAny_Call_Name_kw (mR I hg hm ?_ cf)
  refine PySem.W.callWith_K (h₀:=X.base) I.ok.mod.kin M.kp (spliced_more (aS (he pins s σ H _ I h) λu s1 ⟨y,H1,I1,ry,q⟩=>?_) hs) hs rfl
  refine spliced_none ⟨I1.kIn,?_⟩
  refine J8 (vs:=[y]) M F hr hb hx I1 (.cons ry .nil) (show 1<=sizeLine by decide) λa t ow=>⟨a,t,y,rfl,yC,λd hd=>⟨rfl,a,t,d,rfl,?_,yC,?_⟩⟩
  ·exact ⟨s8,ow.2⟩
  ·have n:d≠a:=λz=>by rw [z,yC] at hd;cases hd
   rw [zM n] at hd
   have e1:del (upd (upd (upd H1 a (fJ C t none a)) d (.xd [(fld,y)])) a (fJ C t (some d) a)) a=upd H1 d (.xd [(fld,y)]):=by
    rw [J5 (yw n),Gp]
    exact J4 (by rw [zM (yw n)];exact ow.1)
   rw [e1]
   exact q d hd
 ·subst ev
  obtain rfl:u=Value.ref a:=rv
  have he:s1.heap.get? a=some { cls:=.ref C,dict:=some d,data:=.fields #[.ref t,.none,.none,.none,.bool false,.none] }:=(I2.hok a _ ha).1
  exact ⟨a,C,t,some d,rfl,I2.kIn,M.of,he,ht pins σ _ s1 a C (some d) (Inv.drop I2 ha) ⟨.none,⟨_,_,he,rfl,rfl,rfl,rfl,rfl⟩,ow,.inl rfl⟩ q⟩
end
def XP (X:Cx) (pins:Ac) (σ:St) (E:XK) (u:Value) (s':Shared):Prop:=∃(a C:Addr) (d:Option Addr) (H':Hp),u=.ref a/\Inv X pins σ H' s'/\pV X pins H' s'.heap a C d/\E (.ref C) d H'
abbrev TX:=St->Hp->VK->XK->Prop
def PX (X:Cx) (e:Expr) (t:TX):Prop :=
 ∀(pins:Ac) (s:Shared) (σ:St) (H:Hp) (Q:VK) (E:XK),Inv X pins σ H s->t σ H Q E->wpAny (model X.prog X.w) X.A (eval e X.env) (EP X pins σ Q) (XP X pins σ E) s
section
variable {X:Cx}{k:Nat}{f C:Addr}{fd:FuncData}{ps:Ad}{sp:Sp}{cX:List V}{ds:Af}{E:XK}{x m:Str}{p pos apos:Pos}{e o:Expr}{es:List Expr}{ta:TE}{t:TA}
def Kb {pins:Ac}{σ:St}{H:Hp}{s:Shared}{Q:VK}{us:Af}{vs:List V}(F:a_ X.prog X.w X.K X.mg X.base (bV X.prog X.w) k f fd ps sp) (hr:aY k X.A) (hb:Binds X.K fd ps ds) (hd:Vals cX ds)
  (I:Inv X pins σ H s) (r:Vals vs us) (h:sp (vs++cX) H Q E):wpAny (model X.prog X.w) X.A (call (.ref f) us) (EP X pins σ Q) (XP X pins σ E) s:=by
 have r2:Vals (vs++cX) (us++ds):=r.append hd
 have hl:(us++ds).length=ps.length:=by rw [<-r2.length];exact F.len _ _ _ _ h
 refine wpAny_call (codeAny_mono (F.run X.A X.stack s H ⟨us,[]⟩ (us++ds) (vs++cX) Q E hr I.env0 (hb s us I.kIn hl) r2 h) λr s' hq=>?_)
 cases r with
 | error e =>
  obtain ⟨a,C,T,d,H',rfl,os,bare,un,hok,x,ne,tb,⟨a1,a2⟩,⟨t1,t2⟩,q⟩:=hq
  have I':Inv X pins σ H' s':=I.call' (ch:=[]) os un hok bare λb z=>absurd z (by simp)
  exact ⟨a,C,d,H',rfl,I',⟨_,x,a6.new I a1 a2,.inr ⟨T,rfl,ne,tb,a6.new I t1 t2⟩⟩,q⟩
 | ok fl =>
  cases fl with
  | ret u=>exact I.after hq
  | next=>exact hq.elim
  | brk=>exact hq.elim
  | cont=>exact hq.elim
end
def fL (C:Addr) (d:Option Addr) (a:Addr):HO:=.ext λ_ _ h=>∃T:Addr,XO h a (.ref C) d (.ref T)
abbrev Cx.caught (X:Cx) (a:Addr):Cx:={ X with A:=X.A.mark (some (.ref a)),calm:=false,xe:=λ_ _=>False }
section
variable {X:Cx}{pins:Ac}{σ:St}{H:Hp}{s:Shared}{a C:Addr}{d:Option Addr}
def Inv.caught (I:Inv X pins σ H s) (a:Addr):Inv (X.caught a) pins σ H s :=
 ⟨⟨I.ok.mod,I.ok.kind,I.ok.glob,I.ok.blt,I.ok.above,I.ok.inj,I.ok.has,I.ok.cab,(λz=>nomatch z),I.ok.frames,I.ok.stk,I.ok.exf,I.ok.bs,I.ok.bsz,I.ok.noex,I.ok.exfs,I.ok.funs,I.ok.frf⟩,I.os,I.bare,I.base,I.loc,I.cell,I.free,I.freeC,I.pin,I.hok,I.len⟩
def Inv.uncaught (J:X.Ok) (I:Inv (X.caught a) pins σ H s):Inv X pins σ H s:=⟨J,I.os,I.bare,I.base,I.loc,I.cell,I.free,I.freeC,I.pin,I.hok,I.len⟩
def Inv.track {o:HO}(I:Inv X pins σ H s) (ow:a6 X pins H a) (new:aZ X.prog X.w (upd H a o) s.heap a o):Inv X pins σ (upd H a o) s:=by
 have ne:∀b u,H b=some u->b≠a:=λb u e z=>by rw [z,ow.1] at e;cases e
 have t:=I.step (h':=s.heap) (H':=upd H a o) (g':=s.gens) (t':=s.toks) (d':=s.drawn) (ch:=[a]) (λb hb=>?_) (λb u _ _ _ e _=>e) (λb u _ _ _ e _=>⟨u.slots,e⟩) (λb u nb e n=>?_) (λb u _ e=>⟨u,e⟩) (λb xs e=>?_) (λb u v e=>?_) (λb ps e=>?_) (λm hm=>hm) (λb u e=>?_) I.bare
 ·exact t
 ·have z:b=a:=by simpa using hb
  rw [z]
  exact ⟨.inr ow.2.1,ow.2.2.1,ow.2.2.2.1,ow.2.2.2.2⟩
 ·rw [zM (λz=>nb (by simp [z]))];exact n
 ·rw [zM (ne b _ e)];exact e
 ·rw [zM (ne b _ e)];exact e
 ·exact ⟨#[],by rw [zM (ne b _ e),e];simp⟩
 ·by_cases z:b=a
  ·rw [z] at e ⊢
   rw [yC] at e
   cases e
   exact new
  ·rw [zM z] at e
   exact (I.hok b u e).stay (λ_ _ _ q=>q) (λc q=>by rw [zM (ne c _ q)];exact q) λc xs q=>by rw [zM (ne c _ q)];exact q
def Inv.catch {T:Addr}(I:Inv X pins σ H s) (ow:a6 X pins H a) (x:XO s.heap a (.ref C) d (.ref T)):Inv X pins σ (upd H a (fL C d a)) s :=
 Inv.track I ow ⟨⟨T,x⟩,(let ⟨oe,_,e,_⟩:=x;⟨oe,e⟩),λh1 h2 p k=>let ⟨T,z⟩:=p;⟨T,z.keeps λo q=>k o q⟩⟩
def Bn {M:Model}{A:Around}{E:Aa}{j:Nat}{n:Str}{pos:Pos}{Q:Unit->Shared->Prop}(I:Inv X pins σ H s) (hN:X.N.Nodup) (hj:X.N[j]?=some n) (hk:X.env.scope.names.lookup n=some .local)
  (h:∀s',Inv X pins (σ.set j none) H s'->Q () s'):wpAny M A (do bindName X.env n .none;unbindBehindTheSuite X.env n pos) Q E s:=by
 obtain ⟨m,hn,hl⟩:=id I.loc
 have g_:(X.env.scope.kind == .class||(X.env.scope.kind == .module&&X.env.locals != X.env.globals))=false:=by rw [I.ok.kind];rfl
 have aG:j<σ.length:=by rw [I.len];exact (yr.mp hj).1
 have cne:=I.cne
 obtain ⟨oL,_,_,xf,_⟩:=id hn
 refine wpAny_nameGoes_keeps hk hn g_ λh' v iZ hs=>?_
 refine h _ ⟨I.ok,I.os,I.bare,⟨λb o e n hb hx=>?_,λb o e n hb hx=>?_,I.base.free,λb o e hx=>?_,I.base.tups,I.base.frzs,I.base.tbls⟩,⟨_,iZ,λi y v' e1 e2 e3=>?_⟩,λy c e=>?_,I.free,I.freeC,λp hp=>?_,λb ob e=>?_,by simpa using I.len⟩
 ·exact (hs.2 b (yD (je (yh e) I.ok.above))).trans (I.base.keep b o e n hb hx)
 ·obtain ⟨sl,e1⟩:=I.base.slot b o e n hb hx
  exact ⟨sl,(hs.2 b (yD (je (yh e) I.ok.above))).trans e1⟩
 ·obtain ⟨o',e1⟩:=I.base.there b o e hx
  exact ⟨o',(hs.2 b (yD (je (yh e) I.ok.above))).trans e1⟩
 ·by_cases hi:i=j
  ·subst hi
   rw [yW aG] at e2
   cases e2
  ·rw [jd (yw hi)] at e2
   obtain ⟨u',r',q⟩:=hl i y v' e1 e2 e3
   refine ⟨u',r',?_⟩
   rcases q with ⟨k,e⟩|⟨k,c,e,z⟩
   ·refine .inl ⟨k,?_⟩
    have:y≠n:=λe=>hi (rW hN e1 (e▸hj))
    simp [this,e]
   ·exact .inr ⟨k,c,e,z.sameBut hs (cne y c e)⟩
 ·obtain ⟨w',z⟩:=I.cell y c e
  exact ⟨w',z.sameBut hs (cne y c e)⟩
 ·obtain ⟨e,n,ne,nf,d⟩:=I.pin p hp
  exact ⟨(hs.2 p.1 ne).trans e,n,ne,nf,d⟩
 ·refine (I.hok b ob e).stay (λc w' hc q=>(hs.2 c ?_).trans q) (λ_ q=>q) λ_ _ q=>q
  rintro rfl
  rcases hc with rfl|hc
  ·rw [I.free] at e;cases e
  ·rw [I.free] at hc;cases hc
end
section
variable {X:Cx}{pins:Ac}{σ:St}{H:Hp}{s:Shared}{a C d:Addr}{fs:List (Str×V)}{A:Around}{E:Aa}
def Bo (I:Inv X pins σ H s) (ha:H a=some (fL C (some d) a)) (hd:H d=some (.xd fs)):∃ox od,InstAt s.heap a ox C (some od)/\∀n,∃o,lookIn n od=some o/\bF (fs.lookup n) o:=by
 obtain ⟨T,oe,vs,e,hc,lU,tj,_⟩:=(show aZ X.prog X.w H s.heap a (fL C (some d) a) from I.hok a _ ha).1
 obtain ⟨mA,hn,r⟩:=(show aZ X.prog X.w H s.heap d (.xd fs) from I.hok d _ hd)
 obtain ⟨od,ho,hl⟩:=xE hn
 refine ⟨oe,od,⟨e,hc,by unfold notCls;rw [tj],by rw [lU];exact ho⟩,λn=>⟨mA n,hl n,r n⟩⟩
end
def eD.mk' {K:Frag}{C B N f:Addr}{nm q:Str}{bs:Af}{b9:Bool}{sn:Ad}{sub:Af}{ab:Bool}{col:Option Bool}{dd:Option Addr}{k0 k1 k2 k3 k5:Option Value}{c:Value}{d:Option Addr}{es:Array DictEntry}{n:Nat}{sl:Array (Option Value)}
  (hC:K.lookup C=some (excClassObj nm q C N bs (.ref B::cS) b9 sn sub ab col dd k0 k1 k2 k3 k5 "ValueError.__new__")) (hB:excIn K B cS "ValueError.__new__" = true)
  (hN:K.lookup N=some ⟨c,d,.dict es n,sl⟩) (he:(es.all λe=>match e.key with | .str _ _=>true|_=>false)=true) (hi:nsIn K N "__init__" = some (some (.ref f))) (fn:isFn K (.ref f)=true) (kp:keepIn K (.ref C)=true):eD K C f:=by
 refine ⟨⟨nm,q,N,bs,_,b9,sn,sub,ab,col,dd,k0,k1,k2,k3,k5,hC,?_,?_,hi⟩,fn,kp⟩
 ·unfold excIn at hB
  split at hB
  ·rename_i dd cd sl ho
   split at hB
   ·simp only [js,beq_iff_eq,Bool.not_eq_true'] at hB
    obtain ⟨⟨_,hok⟩,Kc⟩:=hB
    unfold tailIn
    dsimp only
    rw [ho]
    have t0:tailIn K cS cS=true:=by unfold tailIn;rw [beq_self_eq_true,Bool.true_or]
    simp only [hok,Kc,beq_self_eq_true,Bool.true_and,t0,Bool.or_true]
   ·cases hB
  ·cases hB
 ·unfold nsOkIn
  rw [hN]
  exact he
def Kd (X:Cx) (CX:dj) (k:Nat) (f:Addr) (sp:Sp):Prop:=∃fd ps,a_ X.prog X.w X.K X.mg X.base CX k f fd ps sp/\keepIn X.K (.ref f)=true/\Binds X.K fd ps []
def Ke (X:Cx) (CX:dj) (k:Nat) (E:XK) (tf:TE) (t:TA):TE:=fun σ H Q=>tf σ H λv H0=>∃f sp,v=.ref f/\Kd X CX k f sp/\t σ H0 λvs H1=>sp vs H1 Q E
def Kf {X:Cx}{CX:dj}{k:Nat}{E:XK}{x:Str}{p pos:Pos}{e:Expr}{es:List Expr}{tf:TE}{t:TA}(hf:PE X (.Name x p) tf) (hr:aY k X.A) (hx:Passes CX X E) (ha:PA X (e::es) t)
  (he:starEach (e::es) X.env=(false,eval e X.env)::starEach es X.env:=by rfl) (bp:(backTo pos (starEach es X.env)).any (·.1)=false:=by rfl):PE X (.Call (.Name x p) (e::es) [] pos) (Ke X CX k E tf t):=by
 intro pins s σ H Q I h
 refine wpAny_Call_Name_kw (aS (hf pins s σ H _ I h) λu s1 ⟨v,H0,I0,rv,f,sp,ev,⟨fd,ps,F,hk,hb⟩,q⟩=>?_)
 subst ev
 obtain rfl:u=Value.ref f:=rv
 refine PySem.W.callWith_K (h₀:=X.base) I.ok.mod.kin hk (aS (ha pos pins s1 σ H0 _ I0 q) λus s2 ⟨vs,H1,I1,r,q1⟩=>⟨I1.kIn,?_⟩) he bp
 exact si F hr hb .nil hx I1 r (by rw [List.append_nil];exact q1)
section
variable {prog:Program}{w:World}{A:Around}{E:Aa}{h:Heap}{g:Array GenState}{d:Drawn}{t:Nat}{os:OsState}
variable {nm q:Str}{C N:Addr}{bs bm sZ:Af}{b9:Bool}{sn:Ad}{sub:Af}{ab:Bool}{col:Option Bool}{dd:Option Addr}{k0 k1 k2 k3 k5:Option Value}{B newId lg:String}
end
def nE (C:Addr) (Er:XK):TS:=λ_ _ H=>Er (.ref C) none H
end L2
namespace L2
open PySem PySem.Spec PyProof.Rows PySem.W
def tm (X:Cx) (pins:Ac) (H:Hp) (h:Heap) (a C:Addr) (d:Option Addr):Prop :=
 ∃T,XO h a (.ref C) d (.ref T)/\T≠a/\TB h T (rawInt X.env.locals)/\a6 X pins H a/\a6 X pins H T
def tq (X:Cx) (pins:Ac) (H:Hp) (h:Heap) (a C:Addr) (d:Option Addr):Prop:=pV X pins H h a C d\/tm X pins H h a C d
def j2 (X:Cx) (E:XK):Prop:=∀(pins:Ac) (σ:St) (H:Hp) (s:Shared) (a C:Addr) (d:Option Addr),Inv X pins σ H s->tq X pins H s.heap a C d->E (.ref C) d H->X.xe (.ref a) s
def j2.one {X:Cx}{E:XK}(t:j2 X E):Throws X E:=λpins σ H s a C d I F q=>t pins σ H s a C d I (.inl F) q
def XA (X:Cx) (Er:XK) (e:Value) (s:Shared):Prop:=∃(pins:Ac) (σ:St) (H:Hp) (a C:Addr) (d:Option Addr),e=.ref a/\Inv X pins σ H s/\tq X pins H s.heap a C d/\Er (.ref C) d H
section
variable {X:Cx}{pins:Ac}{σ:St}{H:Hp}{s:Shared}{a C:Addr}{d:Option Addr}{A:Around}{E:Aa}{Q:Unit->Shared->Prop}{Er:XK}
def zR:j2 (X.wish (XA X Er)) Er:=λpins σ H s a C d I F q=>⟨pins,σ,H,a,C,d,rfl,I.unwish,F,q⟩
def Bp (I:Inv X pins σ H s) (cZ:A.frames=some X.stack) (a9:X.stack=X.env::X.outer) (hf:X.env.frame=some X.env.locals) (F:tq X pins H s.heap a C d)
  (h:∀s' T,Inv X pins σ H s'->XO s'.heap a (.ref C) d (.ref T)->T≠a->TB s'.heap T (rawInt X.env.locals)->a6 X pins H a->a6 X pins H T->Q () s'):wpAny (model X.prog X.w) A (noteFrame (.ref a) X.env) Q E s:=by
 rcases F with F|⟨T,x,ne,tb,oa,oT⟩
 ·exact Be I cZ a9 hf F h
 ·obtain ⟨oe,vs,e,_,_,hd,_,h1⟩:=id x
  obtain ⟨ot,ts,et,tj,h3⟩:=id tb
  unfold noteFrame
  simp only [hf]
  refine zl (yQ e hd h1 ?_)
  rw [zA (show (Value.ref T != Value.none)=true by simp)]
  refine zl (yQ et tj h3 ?_)
  rw [zA (by simp)]
  exact zG (h s T I x ne tb oa oT)
def Kg {T f:Addr}{fl:Value}(x:XO s.heap a (.ref C) d (.ref T)) (t:TB s.heap T fl) (ne:T≠a)
  (h:∀h',XO h' a (.ref C) d (.ref T)->TB h' T (rawInt f)->(∀b o,b≠T->s.heap.get? b=some o->h'.get? b=some o)->Q () { s with heap:=h' }) {M:Model}:wpAny M A (setFlight (.ref a) (some f)) Q E s:=by
 obtain ⟨oe,vs,e,_,_,hd,_,h1⟩:=id x
 obtain ⟨oT,ts,eT,hdT,h3⟩:=id t
 unfold setFlight
 refine zl (yQ e hd h1 ?_)
 rw [zA (show (Value.ref T != Value.none)=true by simp)]
 refine wpAny_setField eT hdT (Array.getElem?_eq_some_iff.mp h3).1 ?_
 exact h _ (x.keeps λo q=>(jO _ _ ne).trans q) (t.set3 _) λb o nb q=>(jO _ _ (yw nb)).trans q
def yO (a9:X.stack=X.env::X.outer) (hf:X.env.frame=some X.env.locals):PassesOwn (model X.prog X.w) X.A X.env (XA X Er):=by
 rintro e s ⟨pins,σ,H,a,C,d,rfl,I,F,q⟩
 unfold notedBy
 refine Bp I I.ok.frames a9 hf F λs2 T I2 x2 ne tu oa oT=>?_
 unfold cameBackBy
 obtain ⟨oe,vs,e2,_,_,hd,_,h1⟩:=id x2
 refine zl (yQ e2 hd h1 ?_)
 rw [zF (show ¬((Value.ref T==Value.none)=true) by simp),hf]
 refine Kg x2 tu ne λh' x3 nF k3=>⟨pins,σ,H,a,C,d,rfl,?_,.inr ⟨T,x3,ne,nF,oa,oT⟩,q⟩
 exact I2.turned (t':=s2.toks) (it:=T) (λb o nb e=>k3 b o nb e) oT.1 oT.2.2.1 (.inr oT.2.1) oT.2.2.2.1 oT.2.2.2.2
def bS.throwing {st:List Stmt}{t:TS}(h:bS (X.wish (XA X Er)) st t) (ht:j2 X Er):bS X st t:=λpins s σ H D I hw =>
 yV (h pins s σ H D (I.wish _) hw) (λ_ _ q=>q.unwish) λe s' ⟨pins,σ,H,a,C,d,ee,I1,F,q⟩=>ee▸ht pins σ H s' a C d I1 F q
def nG (t:j2 X Er):Passes (bV X.prog X.w) X Er:=JU t.one
end
def Kh {P:Program}{w:World}{K:PySem.W.Frag}{mg:Ab}{base:Heap}{N:Ad}{qual:Str}{scope:Scope}{f:Addr}{cd:Value}{A:Around}{outer:List Env}{s:Shared}{H:Hp}{E:XK} :
  j2 (cY (bV P w) P w K mg base N qual scope f cd A outer s H E) E:=by
 intro pins σ H1 s1 a C d I F q
 show wpAny (model P w) (A.deeper (envOfC qual scope s.heap.objs.size f cd)) (leaving (envOfC qual scope s.heap.objs.size f cd) (.ref a)) _ _ s1
 unfold leaving
 refine zl (Bp I I.ok.frames rfl rfl F λs2 T I2 x ne tb oa oT=>sY I2 x ne tb oa oT λs3 I3 x3 nF=>?_)
 exact ⟨a,C,T,d,H1,rfl,I3.os,I3.bare,I3.base,I3.hok,x3,ne,nF,⟨oa.2.1,oa.1⟩,⟨oT.2.1,oT.1⟩,q⟩
section
variable {P:Program}{w:World}{K:PySem.W.Frag}{mg:Ab}{base:Heap}
def dk.okT {x qual:Str}{st:Stmt}{f:Addr}{fd:FuncData}{N ps:Ad}{k:Nat}{sp:Sp}(F:dk K x qual st f fd) (S:ax N ps (zE st)) (len:∀vs H Q E,sp vs H Q E->vs.length=ps.length)
  (d0:∀(aW:Value) (A:Around) (outer:List Env) (s:Shared) (H:Hp) (vs:List V) (Q:VK) (E:XK),aY k (A.deeper (envOfC qual (zE st) s.heap.objs.size f aW))->sp vs H Q E ->
   ∃t,bS ((cY (bV P w) P w K mg base N qual (zE st) f aW A outer s H E).wish (XA (cY (bV P w) P w K mg base N qual (zE st) f aW A outer s H E) E)) (jf st) t/\t { nx:=λ_ H'=>Q .non H',rt:=Q } (start N vs) H):a_ P w K mg base (bV P w) (k+1) f fd ps sp :=
 dk.okX F S len λaW A outer s H vs Q E hr hs=>let ⟨t,h1,h2⟩:=d0 aW A outer s H vs Q E hr hs;⟨t,bS.throwing h1 Kh,h2⟩
end
end L2
namespace L2
open PySem PySem.Spec PyProof.Rows PySem.W PySem.Builtin PySem.Builtin.ObjectAttr
section
variable {prog:Program}{w:World}{A:Around}{E:Aa}{K:Frag}{x C:Addr}{s:Shared}{ox:Obj}{od:Option Obj}{name:Str}{tk:Tok}
structure fM (K:Frag) (C:Addr):Prop where
 ga:findIn K (.ref C) "__getattribute__" = some (some (.builtin "BaseException.__getattribute__"))
 hk:findIn K (.ref C) "__getattr__" = some none
 hB:mroIn K C (.type "BaseException")=some true
def Bq {fill expr:Bool}{Q:Aa}(X:K.In s.heap) (I:InstAt s.heap x ox C od) (G:fM K C)
  (h:wpAny (model prog w) A.in1 (Builtin.«object.__getattribute__» ⟨[.ref x,.str name tk],[]⟩) (λfin s'=>∃v,fin=.done (.ret v)/\handedIn v=true/\Q v s') (λ_ _=>False) s) :
  wpAny (model prog w) A (getAttrBy (.ref x) (.str name tk) fill expr) Q E s:=by
 have L0:=I.type (M:=model prog w)
 have L1:=looks_findIn (M:=model prog w) X G.ga
 have L2:=looks_findIn (M:=model prog w) X G.hk
 have Ki:Looks (model prog w) s.heap (isInstance (.ref x) (.type "BaseException")) true:=I.type.andThen (looks_mroIn X G.hB)
 unfold getAttrBy
 refine jU (zl (L0.here (zl (L1.here ?_))))
 dsimp only
 rw [zF (show ¬((onTheHeap (Value.ref C)&&Value.builtin "BaseException.__getattribute__" == Value.builtin "object.__getattribute__")=true) by
  rw [show (Value.builtin "BaseException.__getattribute__" == Value.builtin "object.__getattribute__")=false by decide +kernel,Bool.and_false];exact Bool.false_ne_true)]
 unfold getAttrByItsOwn hookBefore
 rw [zA (show onTheHeap (Value.ref C)=true from rfl)]
 refine zl (L2.here (zl (wpAny_attempt (jU ?_))))
 unfold callGetattribute
 rw [zF (show ¬((expr&&onTheHeap (Value.builtin "BaseException.__getattribute__"))=true) by cases expr<;>exact Bool.false_ne_true)]
 unfold boundAndCalled
 refine zl (wpAny_of_eq (PySem.F.excAttr_ValueError.ga.bind (.ref x)) ?_)
 refine wpAny_call (codeAny_call_builtin PySem.F.excAttr_ValueError.ga.plain PySem.F.entry_bexc_ga (@check_slot (model prog w) _ _ s "BaseException.__getattribute__" "BaseException" "__getattribute__" (.ref x) [.str name tk] [] _ (by decide +kernel) (by decide +kernel) Ki (PySem.F.args_bexc_ga (.ref x) (.str name tk)) ?_))
 refine yV h (λfin s' ⟨v,ef,hv,q⟩=>?_) λ_ _ z=>z.elim
 subst ef
 show wpAny _ _ (handedOut v) _ _ _
 rw [handedOut_of hv]
 exact zG q
def Kj {v:Value}{Q:Fin->Shared->Prop}(X:K.In s.heap) (I:InstAt s.heap x ox C od) (hf:findObj K C od name=some (.value v)) (h:Q (.done (.ret v)) s) :
  wpAny (model prog w) A (Builtin.«object.__getattribute__» ⟨[.ref x,.str name tk],[]⟩) Q E s:=by
 have L0:=I.type (M:=model prog w)
 have L1:=looks_find (M:=model prog w) X I hf
 exact zl (zG (zl (zG (zl (L0.here (zl (L1.here (zG h))))))))
def Kk {Q:Fin->Shared->Prop} (X:K.In s.heap) (I:InstAt s.heap x ox C od) (hf:findObj K C od "__class__" = some (.bind (.builtin "getset_descriptor.__get__") (.builtin "object.__class__"))) (hm:mroIn K C (.type "object")=some true)
  (h:Q (.done (.ret (.ref C))) s):wpAny (model prog w) A (Builtin.«object.__getattribute__» ⟨[.ref x,.str "__class__" tk],[]⟩) Q E s:=by
 have L0:=I.type (M:=model prog w)
 have L1:=looks_find (M:=model prog w) X I hf
 refine zl (zG (zl (zG (zl (L0.here (zl (L1.here ?_)))))))
 show wpAny _ _ (holding [.builtin "object.__class__"] (call (.builtin "getset_descriptor.__get__") [.builtin "object.__class__", .ref x,.ref C]) >>= ret) _ _ _
 exact zl (jU (wpAny_call (class_get (ox:=ox) (od:=od) X I hm (zG h))))
end
def Kl {K:Frag} {x D:Addr} {ox:Obj} {od:Option Obj} (G:fM K D) (hcl:(clsIn K D).isSome=true) (hf:findObj K D od "__class__" = some (.bind (.builtin "getset_descriptor.__get__") (.builtin "object.__class__"))) (hm:mroIn K D (.type "object")=some true) :
  KitX K (.ref x) (.ref D) (λh=>InstAt h x ox D od):=by
 obtain ⟨cd,hc⟩:=Option.isSome_iff_exists.mp hcl
 unfold clsIn at hc
 split at hc
 ·rename_i c' d' VF pf ho
  refine ⟨λ_ _ _ I=>I.type,λM h X _=>?_,λh tp dd its n sl X Km=>?_,λ{prog w A E Q s} X I k=>?_⟩
  ·intro A' Q' E' s' k q
   unfold isType loadHead
   exact zl (wpAny_loadPart (k _ _ (X _ _ ho)) (zG q))
  ·refine Bool.eq_false_iff.mpr λq=>?_
   obtain rfl:D=tp:=Value.ref.inj (beq_iff_eq.mp q)
   have z:=(X _ _ ho).symm.trans Km
   cases z
  ·unfold getAttr? getAttrBy?
   refine zl (wpAny_mkText (zl (wpAny_attempt ?_)))
   exact Bq (s:={ s with toks:=s.toks+1 }) X I G (Kk (s:={ s with toks:=s.toks+1 }) X I hf hm ⟨_,rfl,rfl,zG k⟩)
 ·cases hc
structure lh (K:Frag) (C:Addr):Prop where
 g:fM K C
 hd:hasDictIn K C=true
 ha:findIn K (.ref C) "__class__" = some (some (.builtin "object.__class__"))
 hn:specialIn K (.builtin "object.__class__") "__get__" = some (some (.builtin "getset_descriptor.__get__"))
 tk:takesIn K (.builtin "object.__class__")=some true
 hm:mroIn K C (.type "object")=some true
section
variable {X:Cx}{pins:Ac}{σ:St}{H:Hp}{s:Shared}{a C d:Addr}{fs:List (Str×V)}{A:Around}{E:Aa}
def Ko {b:Bool}{f:Str}{v:V}{Q:Aa}(I:Inv X pins σ H s) (ha:H a=some (fL C (some d) a)) (hd:H d=some (.xd fs)) (g:fM X.K C) (hh:hasDictIn X.K C=true) (no:findIn X.K (.ref C) f=some none) (l:fs.lookup f=some v)
  (h:∀u s',Inv X pins σ H s'->RelV v u->Q u s'):wpAny (model X.prog X.w) A (getAttr (.ref a) f b) Q E s:=by
 obtain ⟨ox,od,J,hl⟩:=Bo I ha hd
 obtain ⟨o,ho,r⟩:=hl f
 rw [l] at r
 obtain ⟨u,rfl,ru⟩:=bF.some_of (v:=v) (o:=o) r
 unfold getAttr
 refine zl (wpAny_mkText ?_)
 exact Bq (s:={ s with toks:=s.toks+1 }) I.kIn J g (Kj (s:={ s with toks:=s.toks+1 }) I.kIn J (findObj_own hh no rfl ho) ⟨u,rfl,xH ru,h u _ (I.tok _) ru⟩)
def Kp {c:Value}{b:Bool}{Q:Aa}(I:Inv X pins σ H s) (ha:H a=some (fL C (some d) a)) (hd:H d=some (.xd fs)) (k:lh X.K C) (e:kitOne X.K (.ref C) c=some b) (h:∀tk,Q (.bool b) { s with toks:=tk }) :
  wpAny (model X.prog X.w) A (call (.builtin "isinstance") [.ref a,c]) Q E s:=by
 obtain ⟨ox,od,J,_⟩:=Bo I ha hd
 have cl:(clsIn X.K C).isSome=true:=by obtain ⟨cd,hc,_⟩:=any_some k.hd;rw [hc];rfl
 exact kia_one (Kl k.g cl (findObj_data cl k.ha k.hn k.tk) k.hm) I.kIn J e (λz=>nomatch z) h
end
end L2
namespace L2
open PySem PySem.Spec PyProof.Rows PySem.W
structure kA (prog:Program) (w:World) (it src:Addr) (xs:Array Value) (St:Nat->Heap->Prop):Prop where
 at_:∀{k h h'},St k h->(∀o,h.get? it=some o->h'.get? it=some o)->(∀o,h.get? src=some o->h'.get? src=some o)->St k h'
 lt:∀{k h},St k h->it<h.objs.size
 item:∀{A:Around} {E:Aa} {s:Shared} {k:Nat} {x:Value} {Q:Aa},St k s.heap->xs[k]?=some x->(∀h',St (k+1) h'->Heap.SameBut it s.heap h'->Q x { s with heap:=h' }) ->
  wpAny (model prog w) A (Builtin.SmallTypes.nextOf (.ref it)) Q E s
 stop:∀{A:Around} {E:Aa} {s:Shared} {k:Nat} {Q:Aa},A.handled=none->St k s.heap->xs[k]?=none ->
  (∀h' e,Heap.ExtBut it s.heap h'->(∃o,h'.get? e=some o/\o.cls=.type "StopIteration")->E (.ref e) { s with heap:=h' })->wpAny (model prog w) A (Builtin.SmallTypes.nextOf (.ref it)) Q E s
def nH (it t:Addr) (xs:Array Value) (k:Nat) (h:Heap):Prop:=IsTupIter h it t k/\IsTup h t xs
def wT {prog:Program}{w:World}{it t:Addr}{xs:Array Value}(ne:t≠it):kA prog w it t xs (nH it t xs) where
 at_:=λ{k h h'} q k1 k2=>by
  obtain ⟨⟨o,ho,r⟩,⟨o',ho',r'⟩⟩:=q
  exact ⟨⟨o,k1 o ho,r⟩,⟨o',k2 o' ho',r'⟩⟩
 lt:=λq=>let ⟨⟨_,ho,_⟩,_⟩:=q;yh ho
 item:=λ{A E s k x Q} q hx hQ=>by
  obtain ⟨hit,ht⟩:=q
  obtain ⟨o,ho,hc,hd⟩:=id hit
  obtain ⟨ol,tD,_,nl,tE⟩:=id ht
  unfold Builtin.SmallTypes.nextOf
  refine zl (wpAny_callSpecial?_slot (name:=Str.ofString "__next__") hit.typeIs slot_tupleiter_next (jJ slot_tupleiter_next hit.typeIs entry_tupleiter_next ?_ (args_tupleiter_next _)))
  change wpAny _ _ (field (.ref it) 0 >>= _) _ _ s
  refine zl (yQ ho hd (x:=.ref t) rfl ?_)
  rw [zF (by simp)]
  change wpAny _ _ (field (.ref it) 1 >>= _) _ _ s
  refine zl (yQ ho hd (x:=.int k 0) rfl ?_)
  change wpAny _ _ (seqItems? (.ref t) >>= _) _ _ s
  refine zl (wpAny_seqItems tD tE ?_)
  simp only [hx,Int.toNat_natCast]
  have fl:=Obj.data_mapFields hd (·.setIfInBounds 1 (rawInt (k+1)))
  refine zl (wpAny_setField ho hd (by simp) (zG ⟨x,rfl,zG (hQ _ ⟨⟨_,Heap.get?_update_self _ ho (Obj.isFreed_of_fields fl),(Obj.cls_mapFields ..).trans hc,?_⟩,?_⟩ (Heap.SameBut.update ..))⟩))
  ·rw [fl];simp [rawInt]
  ·exact ht.extBut (Heap.SameBut.update ..).extBut ne
 stop:=λ{A E s k Q} hh q hx hE=>by
  obtain ⟨hit,ht⟩:=q
  obtain ⟨o,ho,hc,hd⟩:=id hit
  obtain ⟨ol,tD,_,nl,tE⟩:=id ht
  unfold Builtin.SmallTypes.nextOf
  refine zl (wpAny_callSpecial?_slot (name:=Str.ofString "__next__") hit.typeIs slot_tupleiter_next (jJ slot_tupleiter_next hit.typeIs entry_tupleiter_next ?_ (args_tupleiter_next _)))
  change wpAny _ _ (field (.ref it) 0 >>= _) _ _ s
  refine zl (yQ ho hd (x:=.ref t) rfl ?_)
  rw [zF (by simp)]
  change wpAny _ _ (field (.ref it) 1 >>= _) _ _ s
  refine zl (yQ ho hd (x:=.int k 0) rfl ?_)
  change wpAny _ _ (seqItems? (.ref t) >>= _) _ _ s
  refine zl (wpAny_seqItems tD tE ?_)
  simp only [hx,Int.toNat_natCast]
  refine zl (iU (zl (wpAny_setField ho hd (by simp) ?_)))
  change wpAny _ _ (newExc (.type "StopIteration") [] >>= _) _ _ _
  refine zl ?_
  simp only [newExc,newTuple]
  refine zl (jN (zl (m:=firstArgMember _ _) (wpAny_of_eq (a:=Value.none) (by first|rfl|(simp only [firstArgMember];rfl)) (jN ?_ (by size_fits)))) (by size_fits))
  simp only [raiseNew]
  refine zl (wpAny_handled ?_)
  first|rw [show A.in1.handled=none from hh]|rw [hh]
  exact zl (zG (wpAny_throw (hE _ _ (((Heap.SameBut.update ..).extBut.push _).push _) ⟨_,yB _ rfl,rfl⟩)))
section
variable {prog:Program}{w:World}{A:Around}{E:Aa}{s:Shared}{z TI TO i1 i2 t1 t2:Addr}{k:Nat}{xs ys:Array Value}{x y a b:Value}{S1 S2:Nat->Heap->Prop}
def kA.by_same (S:kA prog w i1 t1 xs S1) {h h':Heap}{c:Addr}(q:S1 k h) (hs:Heap.SameBut c h h') (n1:i1≠c) (n2:t1≠c):S1 k h' :=
 S.at_ q (λo e=>hs.extBut _ _ n1 e) λo e=>hs.extBut _ _ n2 e
def Kq {Q:Aa}(D:ZipApart z TI TO i1 i2 t1 t2) (U1:kA prog w i1 t1 xs S1) (U2:kA prog w i2 t2 ys S2) (hz:IsZip s.heap z TI TO .none) (d4:IsPair s.heap TI (.ref i1) (.ref i2)) (dH:IsPair s.heap TO a b)
  (q1:S1 k s.heap) (q2:S2 k s.heap) (hx:xs[k]?=some x) (hy:ys[k]?=some y)
  (hQ:∀h',IsZip h' z TI TO (rawInt s.heap.objs.size)->IsPair h' TO x y->S1 (k+1) h'->S2 (k+1) h'->IsPair h' s.heap.objs.size x y ->
   (∀c o,c≠z->c≠TO->c≠i1->c≠i2->s.heap.get? c=some o->h'.get? c=some o)->Q (.ref s.heap.objs.size) { s with heap:=h' }) :
  wpAny (model prog w) A (Builtin.«zip.__next__» ⟨[.ref z],[]⟩) (λfin s'=>∃v,fin=.done (.ret v)/\Q v s') E s:=by
 change wpAny _ _ (field (.ref z) 2 >>= _) _ _ _
 refine zl (yQ hz rfl (x:=.bool false) rfl ?_)
 change wpAny _ _ (field (.ref z) 3 >>= _) _ _ _
 refine zl (yQ hz rfl (x:=.ref TI) rfl (zl (wpAny_seqItems d4 rfl ?_)))
 change wpAny _ _ (Builtin.SmallTypes.ownedTupleIsFree (.ref z) >>= _) _ _ _
 refine zl ?_
 unfold Builtin.SmallTypes.ownedTupleIsFree
 refine zl (yQ hz rfl (x:=.none) rfl (zG ?_))
 rw [zA rfl]
 refine zl (iU (zl (yQ hz rfl (x:=.ref TO) rfl (zl (wpAny_setField_rec hz (by simp) λh1 z1 e1=>?_)))))
 replace z1:IsZip h1 z TI TO .ellipsis:=z1
 refine zl ?_
 simp only [List.zipIdx_cons,List.zipIdx_nil,List.forIn_cons,List.forIn_nil]
 refine zl (zl (wpAny_onRaise ?_))
 change wpAny _ _ (Builtin.SmallTypes.nextOf (.ref i1) >>= _) _ _ _
 refine zl (U1.item (U1.by_same q1 e1 D.i1z D.l1z) hx λh2 p2 e2=>zG ?_)
 have o2:IsPair h2 TO a b:=e2.extBut _ _ D.TOi1 (e1.extBut _ _ D.TOz dH)
 refine zl (wpAny_seqItems o2 rfl (zl (wpAny_updateSeq_pair o2 λh3 o3 e3=>?_)))
 replace o3:IsPair h3 TO x b:=o3
 refine zl (wpAny_letGo (zG (zl (zl (wpAny_onRaise ?_)))))
 change wpAny _ _ (Builtin.SmallTypes.nextOf (.ref i2) >>= _) _ _ _
 have r3:S2 k h3:=U2.by_same (U2.by_same (U2.by_same q2 e1 D.i2z D.l2z) e2 D.i12.symm D.l2i1) e3 D.TOi2.symm D.l2TO
 refine zl (U2.item r3 hy λh4 p4 e4=>zG ?_)
 have o4:IsPair h4 TO x b:=e4.extBut _ _ D.TOi2 o3
 refine zl (wpAny_seqItems o4 rfl (zl (wpAny_updateSeq_pair o4 λh5 o5 e5=>?_)))
 replace o5:IsPair h5 TO x y:=o5
 refine zl (wpAny_letGo (zG (zG (zl (wpAny_seqItems o5 rfl (zl (wpAny_newTuple ?_)))))))
 have sz:h5.objs.size=s.heap.objs.size:=by rw [e5.1,e4.1,e3.1,e2.1,e1.1]
 have z5:IsZip h5 z TI TO .ellipsis:=e5.extBut _ _ D.TOz.symm (e4.extBut _ _ D.i2z.symm (e3.extBut _ _ D.TOz.symm (e2.extBut _ _ D.i1z.symm z1)))
 have k5:∀c o,c≠z->c≠TO->c≠i1->c≠i2->s.heap.get? c=some o->h5.get? c=some o:=λc o c1 c2 c3 c4 e=>e5.extBut _ _ c2 (e4.extBut _ _ c4 (e3.extBut _ _ c2 (e2.extBut _ _ c3 (e1.extBut _ _ c1 e))))
 have f1:S1 (k+1) h5:=U1.by_same (U1.by_same (U1.by_same p2 e3 D.TOi1.symm D.l1TO) e4 D.i12 D.l1i2) e5 D.TOi1.symm D.l1TO
 have f2:S2 (k+1) h5:=U2.by_same p4 e5 D.TOi2.symm D.l2TO
 change wpAny _ _ (Builtin.SmallTypes.ownedTupleHandOut (.ref z) (.ref h5.objs.size) >>= _) _ _ _
 refine zl ?_
 unfold Builtin.SmallTypes.ownedTupleHandOut
 have z6:IsZip (h5.push { cls:=.type "tuple", data:=.seq #[x,y] }) z TI TO .ellipsis:=z9 _ z5
 refine zl (wpAny_setField_rec z6 (by simp) λh7 z7 e7=>?_)
 replace z7:IsZip h7 z TI TO (rawInt h5.objs.size):=z7
 refine wpAny_setField_rec z7 (by simp) λh8 z8 e8=>?_
 replace z8:IsZip h8 z TI TO (rawInt h5.objs.size):=z8
 have up:∀c o,c≠z->h5.get? c=some o->h8.get? c=some o:=λc o c1 e=>e8.extBut _ _ c1 (e7.extBut _ _ c1 (z9 _ e))
 have nz:h5.objs.size≠z:=Nat.ne_of_gt (yh z5)
 have pT:IsPair h8 h5.objs.size x y:=e8.extBut _ _ nz (e7.extBut _ _ nz (yB _ rfl))
 rw [sz] at z8 pT
 refine zG ⟨_,rfl,?_⟩
 change Q (.ref h5.objs.size) _
 rw [sz]
 exact hQ h8 z8 (up _ _ D.TOz o5) (U1.at_ f1 (λo e=>up _ o D.i1z e) λo e=>up _ o D.l1z e) (U2.at_ f2 (λo e=>up _ o D.i2z e) λo e=>up _ o D.l2z e) pT λc o c1 c2 c3 c4 e=>up c o c1 (k5 c o c1 c2 c3 c4 e)
def Kr {Q:Fin->Shared->Prop}(hh:A.handled=none) (D:ZipApart z TI TO i1 i2 t1 t2) (U1:kA prog w i1 t1 xs S1) (U2:kA prog w i2 t2 ys S2) (hz:IsZip s.heap z TI TO .none) (d4:IsPair s.heap TI (.ref i1) (.ref i2)) (dH:IsPair s.heap TO a b)
  (q1:S1 k s.heap) (q2:S2 k s.heap) (he:xs[k]?=none\/ys[k]?=none)
  (hE:∀h' e,(∀c o,c≠z->c≠TO->c≠i1->c≠i2->s.heap.get? c=some o->h'.get? c=some o)->(∃o,h'.get? e=some o/\o.cls=.type "StopIteration")->E (.ref e) { s with heap:=h' }) :
  wpAny (model prog w) A (Builtin.«zip.__next__» ⟨[.ref z],[]⟩) Q E s:=by
 change wpAny _ _ (field (.ref z) 2 >>= _) _ _ _
 refine zl (yQ hz rfl (x:=.bool false) rfl ?_)
 change wpAny _ _ (field (.ref z) 3 >>= _) _ _ _
 refine zl (yQ hz rfl (x:=.ref TI) rfl (zl (wpAny_seqItems d4 rfl ?_)))
 change wpAny _ _ (Builtin.SmallTypes.ownedTupleIsFree (.ref z) >>= _) _ _ _
 refine zl ?_
 unfold Builtin.SmallTypes.ownedTupleIsFree
 refine zl (yQ hz rfl (x:=.none) rfl (zG ?_))
 rw [zA rfl]
 refine zl (iU (zl (yQ hz rfl (x:=.ref TO) rfl (zl (wpAny_setField_rec hz (by simp) λh1 z1 e1=>?_)))))
 replace z1:IsZip h1 z TI TO .ellipsis:=z1
 refine zl ?_
 simp only [List.zipIdx_cons,List.zipIdx_nil,List.forIn_cons,List.forIn_nil]
 refine zl (zl (wpAny_onRaise ?_))
 change wpAny _ _ (Builtin.SmallTypes.nextOf (.ref i1) >>= _) _ _ _
 have p1:=U1.by_same q1 e1 D.i1z D.l1z
 have Br:∀{h:Heap} {e:Addr} {oe:Obj},IsZip h z TI TO .ellipsis->h.get? e=some oe->oe.cls=.type "StopIteration" -> e≠z:=λiz ho hc x=>by
  rw [x,iz] at ho
  cases ho
  simp at hc
 cases hx:xs[k]? with
 | none =>
  refine zl (U1.stop hh p1 hx λh2 e e2 ⟨oe,nI,nJ⟩=>?_)
  have z2:IsZip h2 z TI TO .ellipsis:=e2 _ _ D.i1z.symm z1
  exact wpAny_setField_rec z2 (by simp) λh3 _ e3=>hE h3 e (λc o c1 _ c3 _ x=>e3.extBut _ _ c1 (e2 _ _ c3 (e1.extBut _ _ c1 x))) ⟨oe,e3.extBut _ _ (Br z2 nI nJ) nI,nJ⟩
 | some x =>
  have hy:ys[k]?=none:=by
   rcases he with h|h
   ·rw [hx] at h;cases h
   ·exact h
  refine zl (U1.item p1 hx λh2 p2 e2=>zG ?_)
  have o2:IsPair h2 TO a b:=e2.extBut _ _ D.TOi1 (e1.extBut _ _ D.TOz dH)
  refine zl (wpAny_seqItems o2 rfl (zl (wpAny_updateSeq_pair o2 λh3 o3 e3=>?_)))
  refine zl (wpAny_letGo (zG (zl (zl (wpAny_onRaise ?_)))))
  change wpAny _ _ (Builtin.SmallTypes.nextOf (.ref i2) >>= _) _ _ _
  have r3:S2 k h3:=U2.by_same (U2.by_same (U2.by_same q2 e1 D.i2z D.l2z) e2 D.i12.symm D.l2i1) e3 D.TOi2.symm D.l2TO
  refine zl (U2.stop hh r3 hy λh4 e e4 ⟨oe,nI,nJ⟩=>?_)
  have z4:IsZip h4 z TI TO .ellipsis:=e4 _ _ D.i2z.symm (e3.extBut _ _ D.TOz.symm (e2.extBut _ _ D.i1z.symm z1))
  exact wpAny_setField_rec z4 (by simp) λh5 _ e5=>hE h5 e (λc o c1 c2 c3 c4 x=>e5.extBut _ _ c1 (e4 _ _ c4 (e3.extBut _ _ c2 (e2.extBut _ _ c3 (e1.extBut _ _ c1 x))))) ⟨oe,e5.extBut _ _ (Br z4 nI nJ) nI,nJ⟩
end
section
variable {X:Cx}{pins:Ac}{σ:St}{H:Hp}{s:Shared}{h':Heap}
def Inv.turnL {ch:Ae}{t':Nat}(I:Inv X pins σ H s) (hc:∀b∈ch,cD X pins H b) (k:∀b o,b∉ch->s.heap.get? b=some o->h'.get? b=some o):Inv X pins σ H { s with heap:=h',toks:=t' }:=by
 have fy:∀b u,H b=some u->b∉ch:=λb u e z=>by rw [(hc b z).1] at e;cases e
 refine I.step (g':=s.gens) (d':=s.drawn) (ch:=ch) (λb hb=>?_) (λb o _ _ nb e _=>k b o nb e) (λb o _ _ nb e _=>⟨o.slots,k b o nb e⟩) (λ_ _ _ _ n=>n)
  (λb o nb e=>⟨o,k b o nb e⟩) (λ_ _ e=>e) (λ_ _ _ e=>e) (λb ps e=>⟨#[],by rw [e];simp⟩) (λm hm=>?_) (λb u e=>?_) I.bare
 ·obtain ⟨_,f1,_,f3,f4,f5⟩:=hc b hb
  exact ⟨f3,f1,f4,f5⟩
 ·obtain ⟨o,es,ep,ho,r⟩:=hm
  exact ⟨o,es,ep,k _ o (λz=>(hc _ z).2.1 rfl) ho,r⟩
 ·refine (I.hok b u e).stay (λc v cw q=>k c v ?_ q) (λ_ q=>q) λ_ _ q=>q
  rcases cw with z|z
  ·rw [z];exact fy b u e
  ·exact fy c _ z
def Inv.turnN {ch:Ae}{T:Addr}{o:HO}{t':Nat}(I:Inv X pins σ H s) (hc:∀b∈ch,cD X pins H b) (k:∀b o,b∉ch->s.heap.get? b=some o->h'.get? b=some o) (hT:s.heap.objs.size<=T)
  (new:aZ X.prog X.w (upd H T o) h' T o):Inv X pins σ (upd H T o) { s with heap:=h',toks:=t' }:=by
 have fT:H T=none:=I.hok.fresh hT
 have fy:∀b u,H b=some u->b∉ch:=λb u e z=>by rw [(hc b z).1] at e;cases e
 have nT:∀b u,H b=some u->b≠T:=λb u e z=>by rw [z,fT] at e;cases e
 refine I.step (g':=s.gens) (d':=s.drawn) (ch:=ch) (λb hb=>?_) (λb o _ _ nb e _=>k b o nb e) (λb o _ _ nb e _=>⟨o.slots,k b o nb e⟩) (λb u _ e n=>?_)
  (λb o nb e=>⟨o,k b o nb e⟩) (λb xs e=>?_) (λb u v e=>?_) (λb ps e=>⟨#[],?_⟩) (λm hm=>?_) (λb u e=>?_) I.bare
 ·obtain ⟨_,f1,_,f3,f4,f5⟩:=hc b hb
  exact ⟨f3,f1,f4,f5⟩
 ·rw [zM (yD (je (yh e) hT))];exact n
 ·rw [zM (nT b _ e)];exact e
 ·rw [zM (nT b _ e)];exact e
 ·rw [zM (nT b _ e),e];simp
 ·obtain ⟨o,es,ep,ho,r⟩:=hm
  exact ⟨o,es,ep,k _ o (λz=>(hc _ z).2.1 rfl) ho,r⟩
 ·by_cases z:b=T
  ·rw [z] at e ⊢
   rw [yC] at e
   cases e
   exact new
  ·rw [zM z] at e
   refine (I.hok b u e).stay (λc v cw q=>k c v ?_ q) (λc q=>by rw [zM (nT c _ q)];exact q) λc xs q=>by rw [zM (nT c _ q)];exact q
   rcases cw with z|z
   ·rw [z];exact fy b u e
   ·exact fy c _ z
end
def tG (K:Frag) (a b:Addr):It :=
 ⟨λi H=>∃xs ys x y,ba K H a xs/\ba K H b ys/\xs[i]?=some x/\ys[i]?=some y,
  λi H v H'=>∃T x y,H T=none/\v=.ref T/\H'=upd H T (.tup [x,y])/\(∀xs,ba K H a xs->xs[i]?=some x)/\∀ys,ba K H b ys->ys[i]?=some y,
  λi H=>∃xs ys,ba K H a xs/\ba K H b ys/\(xs.length<=i\/ys.length<=i)⟩
def Bs (z TI TO i1 i2 a b:Addr) (k:Nat) (h:Heap):Prop:=IsZip h z TI TO .none/\IsPair h TI (.ref i1) (.ref i2)/\(∃u v,IsPair h TO u v)/\IsTupIter h i1 a k/\IsTupIter h i2 b k
def lV {X:Cx}{pins:Ac}{σ:St}{H:Hp}{s:Shared}{a c:Addr}{xs:List V}(I:Inv X pins σ H s) (hf:cD X pins H c) (hq:ba X.K H a xs):a≠c:=by
 rintro rfl
 rcases hq with q|⟨o,its,n,hl,_⟩
 ·rcases q with q|⟨ob,q⟩<;>(rw [hf.1] at q;cases q)
 ·have e:=I.ok.mod.kin _ _ hl
  rcases hf.2.2.2.1 with z|z
  ·exact I.ok.noex _ _ e z
  ·exact absurd (je (yh (I.ok.bs _ _ e).1) z) (Nat.lt_irrefl _)
structure Bt (z TI TO i1 i2:Addr):Prop where
 TIz:TI≠z
 TOz:TO≠z
 i1z:i1≠z
 i2z:i2≠z
 TITO:TI≠TO
 TIi1:TI≠i1
 TIi2:TI≠i2
 TOi1:TO≠i1
 TOi2:TO≠i2
 i12:i1≠i2
def Ks {P:Program}{w:World}{K:Frag}{elts:List Expr}{kt:Nat}{pos:Pos}{z TI TO i1 i2 a b:Addr}(V5:Bt z TI TO i1 i2):Turn P w K (.Tuple elts kt pos) (tG K a b) [z,TI,TO,i1,i2] z (Bs z TI TO i1 i2 a b) where
 mem:=by simp
 obj:=λi h st c hc=>by
  obtain ⟨hz,d4,⟨u,v,dH⟩,⟨o1,e1,_,d1⟩,⟨o2,e2,_,d2⟩⟩:=st
  simp only [yL,List.not_mem_nil,wQ] at hc
  rcases hc with q|q|q|q|q<;>rw [q]
  ·exact ⟨_,hz,λv z=>by cases z⟩
  ·exact ⟨_,d4,λv z=>by cases z⟩
  ·exact ⟨_,dH,λv z=>by cases z⟩
  ·exact ⟨_,e1,λv z=>by rw [d1] at z;cases z⟩
  ·exact ⟨_,e2,λv z=>by rw [d2] at z;cases z⟩
 keep:=λi h h' st k=>by
  obtain ⟨hz,d4,⟨u,v,dH⟩,⟨o1,e1,r1⟩,⟨o2,e2,r2⟩⟩:=st
  exact ⟨k z (by simp) _ hz,k TI (by simp) _ d4,⟨u,v,k TO (by simp) _ dH⟩,⟨o1,k i1 (by simp) _ e1,r1⟩,⟨o2,k i2 (by simp) _ e2,r2⟩⟩
 item:=by
  intro X hP hw hK hc i pins s σ H E I hf st hg
  subst hP hw hK
  obtain ⟨xs,ys,x,y,ie,gF,hx,hy⟩:=hg
  obtain ⟨hz,d4,⟨u0,v0,dH⟩,pW,pX⟩:=st
  obtain ⟨rJ,tH,p1,_⟩:=I.tuple ie
  obtain ⟨aU,nL,p2,_⟩:=I.tuple gF
  obtain ⟨u,hu,ru⟩:=tH.get hx
  obtain ⟨v,hv,rv⟩:=nL.get hy
  have n1:∀c∈[z,TI,TO,i1,i2],a≠c:=λc h=>lV I (hf c h) ie
  have n2:∀c∈[z,TI,TO,i1,i2],b≠c:=λc h=>lV I (hf c h) gF
  have D:ZipApart z TI TO i1 i2 a b:=⟨V5.TIz,V5.TOz,V5.i1z,V5.i2z,V5.TITO,V5.TIi1,V5.TIi2,V5.TOi1,V5.TOi2,V5.i12,n1 z (by simp),n1 TO (by simp),n1 i1 (by simp),n1 i2 (by simp),n2 z (by simp),n2 TO (by simp),n2 i1 (by simp),n2 i2 (by simp)⟩
  have hT:s.TypeIs (.ref z) "zip" := ⟨_,hz,rfl⟩
  unfold pyNext
  refine zl (wpAny_attempt (wpAny_callSpecial?_slot (name:=Str.ofString "__next__") hT F.slot_zip_next (jJ F.slot_zip_next hT F.entry_zip_next
   (Kq D (wT D.l1i1) (wT D.l2i2) hz d4 dH ⟨pW,p1⟩ ⟨pX,p2⟩ (by simpa using hu) (by simpa using hv) λh1 z1 o1 f1 f2 pT kk=>zG ⟨_,rfl,?_⟩) (F.args_zip_next_1 _))))
  refine wpAny_letOwnedTupleGo_zip (s:={ s with heap:=h1 }) z1 λh2 z2 e2=>?_
  have fr:H s.heap.objs.size=none:=I.hok.fresh (ya _)
  have up:∀c o,c≠z->h1.get? c=some o->h2.get? c=some o:=λc o n e=>e2.extBut _ _ n e
  have nz:s.heap.objs.size≠z:=Nat.ne_of_gt (yh hz)
  have k2:∀c o,c∉[z,TI,TO,i1,i2]->s.heap.get? c=some o->h2.get? c=some o:=λc o nc e =>
   up c o (λq=>nc (by simp [q])) (kk c o (λq=>nc (by simp [q])) (λq=>nc (by simp [q])) (λq=>nc (by simp [q])) (λq=>nc (by simp [q])) e)
  refine ⟨.ref s.heap.objs.size,upd H s.heap.objs.size (.tup [x,y]),?_,rfl,⟨s.heap.objs.size,x,y,fr,rfl,rfl,λcx h'=>by rw [I.tuple_inj h' ie];exact hx,λig h'=>by rw [I.tuple_inj h' gF];exact hy⟩,?_,λc cw=>?_⟩
  ·exact Inv.turnN (s:=s) (h':=h2) (t':=s.toks) I hf k2 (ya _) ⟨show 2<=sizeLine by decide,[u,v],.cons ru (.cons rv .nil),_,up _ _ nz pT,rfl,_,rfl⟩
  ·exact ⟨z2,up _ _ D.TIz (kk _ _ D.TIz D.TITO D.TIi1 D.TIi2 d4),⟨_,_,up _ _ D.TOz o1⟩,(let ⟨o,e,r⟩:=f1.1;⟨o,up _ _ D.i1z e,r⟩),(let ⟨o,e,r⟩:=f2.1;⟨o,up _ _ D.i2z e,r⟩)⟩
  ·have q:c≠s.heap.objs.size:=by
    have lt:∃o,s.heap.get? c=some o:=by
     simp only [yL,List.not_mem_nil,wQ] at cw
     rcases cw with q|q|q|q|q<;>rw [q]
     ·exact ⟨_,hz⟩
     ·exact ⟨_,d4⟩
     ·exact ⟨_,dH⟩
     ·exact let ⟨o,e,_⟩:=pW;⟨o,e⟩
     ·exact let ⟨o,e,_⟩:=pX;⟨o,e⟩
    obtain ⟨o,e⟩:=lt
    exact yD (yh e)
   rw [zM q]
   exact (hf c cw).1
 done:=by
  intro X hP hw hK hc i pins s σ H E I hf st hg
  subst hP hw hK
  obtain ⟨xs,ys,ie,gF,hx⟩:=hg
  obtain ⟨hz,d4,⟨u0,v0,dH⟩,pW,pX⟩:=st
  obtain ⟨rJ,tH,p1,_⟩:=I.tuple ie
  obtain ⟨aU,nL,p2,_⟩:=I.tuple gF
  have l1:=tH.length
  have l2:=nL.length
  have n1:∀c∈[z,TI,TO,i1,i2],a≠c:=λc h=>lV I (hf c h) ie
  have n2:∀c∈[z,TI,TO,i1,i2],b≠c:=λc h=>lV I (hf c h) gF
  have D:ZipApart z TI TO i1 i2 a b:=⟨V5.TIz,V5.TOz,V5.i1z,V5.i2z,V5.TITO,V5.TIi1,V5.TIi2,V5.TOi1,V5.TOi2,V5.i12,n1 z (by simp),n1 TO (by simp),n1 i1 (by simp),n1 i2 (by simp),n2 z (by simp),n2 TO (by simp),n2 i1 (by simp),n2 i2 (by simp)⟩
  have hT:s.TypeIs (.ref z) "zip" := ⟨_,hz,rfl⟩
  unfold pyNext
  refine zl (wpAny_attempt (wpAny_callSpecial?_slot (name:=Str.ofString "__next__") hT F.slot_zip_next (jJ F.slot_zip_next hT F.entry_zip_next
   (Kr (I.ok.hd hc) D (wT D.l1i1) (wT D.l2i2) hz d4 dH ⟨pW,p1⟩ ⟨pX,p2⟩ (hx.imp (λh=>by simp;omega) λh=>by simp;omega) λh1 e kk he=>?_) (F.args_zip_next_1 _))))
  obtain ⟨o,ho,Kt⟩:=he
  refine zl (wpAny_isInstance (T := "StopIteration") (b:=true) ⟨o,ho,Kt⟩ isSubtype_stop ?_)
  exact zG ⟨rfl,Inv.turnL (t':=s.toks) I hf λc o nc e=>kk c o (λq=>nc (by simp [q])) (λq=>nc (by simp [q])) (λq=>nc (by simp [q])) (λq=>nc (by simp [q])) e⟩
 self:=λ_ _ _ _ _ st h=>wpAny_pyIter_zip st.1 h
abbrev pY (h:Heap) (a:Addr):Heap:=h.push { cls:=.type "tuple_iterator", data:=.fields #[.ref a,.int 0 0] }
abbrev pZ (h:Heap) (a b:Addr):Heap:=(pY h a).push { cls:=.type "tuple_iterator", data:=.fields #[.ref b,.int 0 0] }
abbrev p5 (h:Heap) (a b:Addr):Heap:=(pZ h a b).push { cls:=.type "tuple", data:=.seq #[.ref h.objs.size,.ref (pY h a).objs.size] }
abbrev p6 (h:Heap) (a b:Addr):Heap:=(p5 h a b).push { cls:=.type "tuple", data:=.seq #[.none,.none] }
abbrev wU (h:Heap) (a b:Addr):Heap:=(p6 h a b).push { cls:=.type "zip", data:=.fields #[.none,.bool false,.bool false,.ref (pZ h a b).objs.size,.ref (p5 h a b).objs.size] }
def Ku (a b:Addr) (xs ys:Array Value) :
  Meets (Builtin.«zip.__new__» ⟨[.type "zip", .ref a,.ref b],[]⟩) (λ_ R s=>IsTup s.heap a xs/\IsTup s.heap b ys/\R (.ok (.ret (.ref (p6 s.heap a b).objs.size))) { s with heap:=wU s.heap a b }) :=
 .of_wp λprog w A R s h=>by
  obtain ⟨hp,g,d,tk,os⟩:=s
  obtain ⟨h1,h2,h⟩:=h
  have rK:=sub_zip
  have H1:IsTup (Shared.heap ⟨hp,g,d,tk,os⟩) a xs:=h1
  have H2:IsTup (Shared.heap ⟨hp.push { cls:=.type "tuple_iterator", data:=.fields #[.ref a,.int 0 0] },g,d,tk,os⟩) b ys:=h2.push _
  wp_walk using iter_tuple H1,iter_tuple H2
  exact ⟨_,rfl,h⟩
section
variable {prog:Program}{w:World}{A:Around}{E:Aa}{s:Shared}
def Kv {a b:Addr}{xs ys:Array Value}{Q:Aa}(h1:IsTup s.heap a xs) (h2:IsTup s.heap b ys)
  (h:Bs (s.heap.objs.size+4) (s.heap.objs.size+2) (s.heap.objs.size+3) s.heap.objs.size (s.heap.objs.size+1) a b 0 (wU s.heap a b)->Q (.ref (s.heap.objs.size+4)) { s with heap:=wU s.heap a b }) :
  wpAny (model prog w) A (call (.type "zip") [.ref a,.ref b]) Q E s:=by
 refine callType_new F.called_zip (by decide) (F.typeCall_zip_2 _ _) (F.newCall_zip_2 _ _) (λobj=>F.args_object_init_3 obj _ _) F.entry_zip_new (Ku a b xs ys) ⟨h1,h2,?_⟩
 have z1:(pY s.heap a).objs.size=s.heap.objs.size+1:=Heap.size_push ..
 have z2:(pZ s.heap a b).objs.size=s.heap.objs.size+2:=by rw [Heap.size_push,z1]
 have z3:(p5 s.heap a b).objs.size=s.heap.objs.size+3:=by rw [Heap.size_push,z2]
 have z4:(p6 s.heap a b).objs.size=s.heap.objs.size+4:=by rw [Heap.size_push,z3]
 have g5:(wU s.heap a b).get? (p6 s.heap a b).objs.size=some _:=yB _ rfl
 have g4:(wU s.heap a b).get? (p5 s.heap a b).objs.size=some _:=z9 _ (yB _ rfl)
 have g3:(wU s.heap a b).get? (pZ s.heap a b).objs.size=some _:=z9 _ (z9 _ (yB _ rfl))
 have g2:(wU s.heap a b).get? (pY s.heap a).objs.size=some _:=z9 _ (z9 _ (z9 _ (yB _ rfl)))
 have g1:(wU s.heap a b).get? s.heap.objs.size=some _:=z9 _ (z9 _ (z9 _ (z9 _ (yB _ rfl))))
 show _/\_
 rw [z2,z3,z4] at g5
 rw [z1,z2] at g3
 rw [z3] at g4
 rw [z1] at g2
 rw [z4]
 exact ⟨⟨_,g5,rfl⟩,h ⟨g5,g3,⟨_,_,g4⟩,⟨_,g1,rfl,rfl⟩,⟨_,g2,rfl,rfl⟩⟩⟩
end
def Kw:bootBuiltins "zip" = some (.type "zip"):=by decide +kernel
def Ky (K:Frag) (ta:TA):TI:=fun σ H R=>ta σ H λvs H1=>∃a b,vs=[.ref a,.ref b]/\(∃xs,ba K H1 a xs)/\(∃ys,ba K H1 b ys)/\R (tG K a b) H1
def Kz {X:Cx} {elts:List Expr} {kt:Nat} {tp:Pos} {x y:Expr} {ta:TA} {p pos:Pos} (hg:Gl X "zip") (hm:X.mg "zip" = none) (ha:PA X [x,y] ta) (hs:starEach [x,y] X.env=[(false,eval x X.env),(false,eval y X.env)]:=by rfl) (dW:starEach [y] X.env=[(false,eval y X.env)]:=by rfl) :
  PI X (.Tuple elts kt tp) (.Call (.Name "zip" p) [x,y] [] pos) (Ky X.K ta):=by
 intro pins s σ H R I h
 refine Call_ (wH I hg hm Kw (PyProof.Rows.callWith_type1 (aS (ha pos pins s σ H _ I h) λus s1 ⟨vs,H1,I1,r1,q1⟩=>?_) (by rw [hs,dW]) (by rw [dW];rfl)))
 obtain ⟨a,b,e,⟨xs,ie⟩,⟨ys,gF⟩,q⟩:=q1
 subst e
 obtain ⟨u,v,rfl,ru,rv⟩:=xC r1
 obtain rfl:u=Value.ref a:=ru
 obtain rfl:v=Value.ref b:=rv
 obtain ⟨rJ,_,p1,_⟩:=I1.tuple ie
 obtain ⟨aU,_,p2,_⟩:=I1.tuple gF
 refine Kv p1 p2 λst=>wpAny_pyIter_zip st.1 ?_
 have kk:∀c o,s1.heap.get? c=some o->(wU s1.heap a b).get? c=some o:=λc o e=>z9 _ (z9 _ (z9 _ (z9 _ (z9 _ e))))
 refine ⟨_,[s1.heap.objs.size+4,s1.heap.objs.size+2,s1.heap.objs.size+3,s1.heap.objs.size,s1.heap.objs.size+1],_,_,H1,rfl,I1.kept (t':=s1.toks) kk,Ks ?_,st,λc hc=>?_,q⟩
 ·have ne:∀(n i j:Nat),i≠j->n+i≠n+j:=λn i j h z=>h (Nat.add_left_cancel z)
  have p7:∀(n i:Nat),i≠0->n+i≠n:=λn i h z=>h (by omega)
  exact ⟨ne _ 2 4 (by decide),ne _ 3 4 (by decide),(p7 _ 4 (by decide)).symm,ne _ 1 4 (by decide),ne _ 2 3 (by decide),p7 _ 2 (by decide),ne _ 2 1 (by decide),p7 _ 3 (by decide),ne _ 3 1 (by decide),(p7 _ 1 (by decide)).symm⟩
 ·have le:s1.heap.objs.size<=c:=by
   simp only [yL,List.not_mem_nil,wQ] at hc
   rcases hc with q|q|q|q|q<;>rw [q]<;>first|exact ya _|exact Nat.le_add_right _ _
  exact I1.fpOk le (I1.hok.fresh le)
structure KD (X:Cx) (a:Addr):Prop where
 ob:∃es n,X.K.lookup a=some ⟨.type "dict", none,.dict es n,#[]⟩/\KeysLit X.w.params es.toList
 no:(a==sysModules)=false
section
variable {X:Cx}
def KA:eQ X (λx y H Q=>∃a z u v,x=.ref a/\y=.str z/\KD X a/\nsIn X.K a z=some (some u)/\RelV v u/\Q v H):=by
 intro a b pins s σ H x y v u Q I rx ry h hs
 obtain ⟨p,z,u',v',rfl,rfl,⟨⟨es,n,hl,hk⟩,_⟩,e,rv,q⟩:=h
 obtain rfl:v=Value.ref p:=rx
 obtain ⟨t,rfl⟩:=ry
 obtain ⟨m,F⟩:=I.fr
 exact topItem_K F I.ok.mod.kin hl hk e ⟨v',H,I.tok _,rv,q⟩ hs
def KC:bg X (compareOp .NotIn) (λx y H Q=>∃a z r,x=.str z/\y=.ref a/\KD X a/\nsIn X.K a z=some r/\Q (.bl (!r.isSome)) H):=by
 intro pins s σ H x y v u Q I rx ry h
 obtain ⟨p,z,r,rfl,rfl,⟨⟨es,n,hl,hk⟩,no⟩,e,q⟩:=h
 obtain rfl:u=Value.ref p:=ry
 obtain ⟨t,rfl⟩:=rx
 refine wpAny_notIn_of (strKind_is X.prog X.w z t) no (mapOf_K (prog:=X.prog) I.kIn hl hk) ?_
 rw [find_K hl e]
 exact ⟨.bl (!r.isSome),H,I.tok _,rfl,q⟩
end
end L2
namespace Mi
open PySem L2 PySem.W
inductive PV where
 | non|bl (b:Bool)|int (i:Int)|str (x:Str)|ty (n:String)
 | tup (xs:List PV)|frl (xs:List PV)|ref (n:Nat)|fn (x:Str)|kd (ks:Ad) (xs:List PV)|exo (c:Str) (ks:Ad) (xs:List PV)
inductive SO where
 | lst (xs:List PV)|dic (ks:Ad) (xs:List PV)|ins (c:Str) (ks:Ad) (xs:List PV)|fdi (ks:Ad) (xs:List PV)|dit (ks:List (List Key)) (xs:List PV)
abbrev ae:=List SO
inductive Res (α:Type) where
 | ok (a:α) (st:ae)|err (c:Str) (ks:Ad) (xs:List PV) (st:ae)|stuck
abbrev Mo (α:Type):=ae->Res α
def Res.bind {α β:Type}:Res α->(α->Mo β)->Res β
 | .ok a st,f=>f a st
 | .err c ks xs st,_=>.err c ks xs st
 | .stuck,_=>.stuck
abbrev zc:=List (Option PV)
def KG (K:Frag) (a:Addr) (ks:Ad) (us:Af):Prop:=∀z,nsIn K a z=some ((ks.zip us).lookup z)
def gG (K:Frag) (H:Hp) (a:Addr) (vs:List V):Prop :=
 (∃o,H a=some (.frz o (.lst vs)))\/∃(o:Obj) (its:Array Value) (n:Nat),K.lookup a=some o/\o.cls=.type "list" /\ o.dict=none/\o.data=.seq its n/\its.size<=sizeLine/\Vals vs its.toList
def gG.sq {K:Frag}{H:Hp}{a:Addr}{vs:List V}(h:gG K H a vs):a4 K H a vs:=by
 rcases h with ⟨o,h⟩|h
 ·exact .inl (.inr ⟨o,h⟩)
 ·exact .inr h
section
variable (K:Frag) (mg:Ab)
mutual
def R (ρ:Ae) (H:Hp):PV->V->Prop
 | .non,v=>v=.non
 | .bl b,v=>v=.bl b
 | .int i,v=>v=.int i
 | .str x,v=>v=.str x
 | .ty n,v=>v=.ty n
 | .tup xs,v=>∃a vs,v=.ref a/\ba K H a vs/\Rs ρ H xs vs
 | .frl xs,v=>∃a vs,v=.ref a/\gG K H a vs/\Rs ρ H xs vs
 | .ref n,v=>∃a,v=.ref a/\ρ[n]?=some a
 | .fn x,v=>∃f,v=.ref f/\mg x=some (.ref f)
 | .kd ks xs,v=>∃a us vs,v=.ref a/\KG K a ks us/\Vals vs us/\Rs ρ H xs vs
 | .exo c ks xs,v=>∃a C d vs,v=.ref a/\mg c=some (.ref C)/\H a=some (fL C (some d) a)/\H d=some (.xd (ks.zip vs))/\Rs ρ H xs vs/\ks.length=vs.length
def Rs (ρ:Ae) (H:Hp):List PV->List V->Prop
 | [],vs=>vs=[]
 | x::xs,vs=>∃v r,vs=v::r/\R ρ H x v/\Rs ρ H xs r
end
def dE (a:Addr) (its:List (List Key×Addr×Value)):HO:=.ext λP w h=>its.length<=sizeLine/\(a==sysModules)=false /\
 ∃o es ep,h.get? a=some o/\o.ExactDict/\o.data=.dict es ep/\es.toList=its.map (entryOfKey (tupleKind (a3 P w)))/\(its.map (·.1)).Nodup
def fh (ρ:Ae) (H:Hp):SO->Addr->Prop
 | .lst xs,a=>∃vs,H a=some (.lst vs)/\Rs K mg ρ H xs vs
 | .dic ks xs,a=>∃vs,H a=some (.dK ((ks.map Sum.inr).zip vs))/\Rs K mg ρ H xs vs/\ks.length=vs.length
 | .ins c ks xs,a=>∃C dx vs,mg c=some (.ref C)/\H a=some (.ins C dx (ks.zip vs))/\Rs K mg ρ H xs vs/\ks.length=vs.length
 | .fdi ks xs,a=>∃o vs,H a=some (.frz o (.dK ((ks.map Sum.inr).zip vs)))/\Rs K mg ρ H xs vs/\ks.length=vs.length
 | .dit ks xs,a=>∃its vs,H a=some (dE a its)/\its.map (·.1)=ks/\(∀x,x∈its->ba K H x.2.1 (x.1.map kV))/\Vals vs (its.map (·.2.2))/\Rs K mg ρ H xs vs
structure a0 (ρ:Ae) (H:Hp) (st:ae):Prop where
 len:ρ.length=st.length
 nd:ρ.Nodup
 at_:∀(n:Nat) so,st[n]?=some so->∃a,ρ[n]?=some a/\fh K mg ρ H so a
def Still (φ:Program->World->Heap->Prop):Prop:=∀P w,∃h:Heap,φ P w h/\∀b o es ep,h.get? b=some o->o.data ≠ .dict es ep
open Classical in
noncomputable def tI:HO->Bool
 | .tup _=>true
 | .frz _ _=>true
 | .xd _=>true
 | .ext φ=>decide (Still φ)
 | _=>false
structure Ext (ρ:Ae) (H:Hp) (aj:Ae) (H':Hp):Prop where
 pre:∃δ,aj=ρ++δ
 imm:∀a o,H a=some o->tI o=true->H' a=some o
def KH {C:Addr}{d:Option Addr}{a:Addr}:tI (fL C d a)=true:=by
 have st:Still λ_ _ h=>∃T:Addr,XO h a (.ref C) d (.ref T):=λP w=>by
  have g:∀b,(Heap.mk (Array.replicate (a+1) { cls:=.ref C,dict:=d,data:=.fields #[.none,.ref 0,.none,.none,.none,.none] }) {}).get? b=if b<a+1 then some { cls:=.ref C,dict:=d,data:=.fields #[.none,.ref 0,.none,.none,.none,.none] } else none:=by
   intro b
   unfold Heap.get?
   by_cases hb:b<a+1
   ·simp [Array.getElem?_replicate,hb]
   ·simp [Array.getElem?_replicate,hb]
  refine ⟨_,⟨0,_,_,(g a).trans (zA (jP a)),rfl,rfl,rfl,rfl,rfl⟩,λb o es ep e=>?_⟩
  rw [g b] at e
  split at e
  ·cases e;intro z;cases z
  ·cases e
 exact @decide_eq_true _ (Classical.propDecidable _) st
def XR (ρ:Ae) (H:Hp) (c:Str) (ks:Ad) (xs:List PV) (Cv:Value) (d:Option Addr):Prop :=
 ∃C,Cv=.ref C/\mg c=some (.ref C)/\((ks=[]/\d=none)\/∃dd vs,d=some dd/\H dd=some (.xd (ks.zip vs))/\Rs K mg ρ H xs vs/\ks.length=vs.length)
def Out {α:Type}(ρ:Ae) (H:Hp) (r:Res α) (good:List Addr->Hp->α->ae->Prop) (E:XK):Prop :=
 match r with
 | .ok x st=>∀aj H',Ext ρ H aj H'->a0 K mg aj H' st->good aj H' x st
 | .err c ks xs st=>∀aj H' C d,Ext ρ H aj H'->a0 K mg aj H' st->XR K mg aj H' c ks xs C d->E C d H'
 | .stuck=>False
structure a8 (ρ:Ae) (H:Hp) (env:zc) (σ:St):Prop where
 len:env.length=σ.length
 at_:∀(i:Nat) x,env[i]?=some (some x)->∃v,σ[i]?=some (some v)/\R K mg ρ H x v
def gV (Q:VK):List Addr->Hp->PV->ae->Prop:=fun ρ H x _=>∀v,R K mg ρ H x v->Q v H
def KI (Q:List V->Hp->Prop):List Addr->Hp->List PV->ae->Prop:=fun ρ H x _=>∀v,Rs K mg ρ H x v->Q v H
def gB (Q:Bool->Hp->Prop):List Addr->Hp->Bool->ae->Prop:=λ_ H x _=>Q x H
inductive Fl where
 | nx (env:zc)|rt (x:PV)|bk (env:zc)|ct (env:zc)
abbrev Ah:=zc->Mo (List PV)
abbrev Ai:=zc->Mo PV
abbrev Aj:=zc->Mo Fl
abbrev Ak:=zc->Mo Bool
abbrev Al:=List PV->Mo PV
abbrev Am:=PV->PV->Mo PV
abbrev An:=List PV
abbrev Ao:=Option PV
def gS (D:Ends):List Addr->Hp->Fl->ae->Prop:=fun ρ H x _ =>
 match x with
 | .nx env=>∀σ,a8 K mg ρ H env σ->D.nx σ H
 | .rt x=>∀v,R K mg ρ H x v->D.rt v H
 | .bk env=>∀σ,a8 K mg ρ H env σ->D.bk σ H
 | .ct env=>∀σ,a8 K mg ρ H env σ->D.ct σ H
end
section
variable {K:Frag}{mg:Ab}{ρ ag ao:Ae}{H H1 H2:Hp}
def Ext.refl:Ext ρ H ρ H:=⟨⟨[],by simp⟩,λ_ _ h _=>h⟩
def Ext.trans (a:Ext ρ H ag H1) (b:Ext ag H1 ao H2):Ext ρ H ao H2:=by
 obtain ⟨⟨d,hd⟩,i⟩:=a
 obtain ⟨⟨d',eO⟩,i'⟩:=b
 exact ⟨⟨d++d',by rw [eO,hd,List.append_assoc]⟩,λa o h m=>i' a o (i a o h m) m⟩
def Ext.get (a:Ext ρ H ag H1) {n:Nat}{p:Addr}(h:ρ[n]?=some p):ag[n]?=some p:=by
 obtain ⟨⟨d,hd⟩,_⟩:=a
 rw [hd,g8 (yr.mp h).1]
 exact h
def Ext.sqT (e:Ext ρ H ag H1) {a:Addr}{xs:List V}(h:ba K H a xs):ba K H1 a xs:=by
 rcases h with (h|⟨o,h⟩)|h
 ·exact .inl (.inl (e.imm _ _ h rfl))
 ·exact .inl (.inr ⟨o,e.imm _ _ h rfl⟩)
 ·exact .inr h
def Ext.frl (e:Ext ρ H ag H1) {a:Addr}{xs:List V}(h:gG K H a xs):gG K H1 a xs:=by
 rcases h with ⟨o,h⟩|h
 ·exact .inl ⟨o,e.imm _ _ h rfl⟩
 ·exact .inr h
mutual
def R.ext (e:Ext ρ H ag H1):∀(x:PV) {v:V},R K mg ρ H x v->R K mg ag H1 x v
 | .non,_,h=>h
 | .bl _,_,h=>h
 | .int _,_,h=>h
 | .str _,_,h=>h
 | .ty _,_,h=>h
 | .tup xs,_,h=>by
  obtain ⟨a,vs,h1,h2,h3⟩:=h
  exact ⟨a,vs,h1,e.sqT h2,Rs.ext e xs h3⟩
 | .frl xs,_,h=>by
  obtain ⟨a,vs,h1,h2,h3⟩:=h
  exact ⟨a,vs,h1,e.frl h2,Rs.ext e xs h3⟩
 | .ref n,_,h=>by
  obtain ⟨a,h1,h2⟩:=h
  exact ⟨a,h1,e.get h2⟩
 | .fn _,_,h=>h
 | .kd ks xs,_,h=>by
  obtain ⟨a,us,vs,h1,h2,h4,h3⟩:=h
  exact ⟨a,us,vs,h1,h2,h4,Rs.ext e xs h3⟩
 | .exo c ks xs,_,h=>by
  obtain ⟨a,C,d,vs,h1,h2,h3,h4,h5,h6⟩:=h
  exact ⟨a,C,d,vs,h1,h2,e.imm _ _ h3 KH,e.imm _ _ h4 rfl,Rs.ext e xs h5,h6⟩
def Rs.ext (e:Ext ρ H ag H1):∀(xs:An) {vs:List V},Rs K mg ρ H xs vs->Rs K mg ag H1 xs vs
 | [],_,h=>h
 | x::xs,_,h=>by
  obtain ⟨v,r,h1,h2,h3⟩:=h
  exact ⟨v,r,h1,R.ext e x h2,Rs.ext e xs h3⟩
end
def a8.ext (e:Ext ρ H ag H1) {env:zc}{σ:St}(h:a8 K mg ρ H env σ):a8 K mg ag H1 env σ :=
 ⟨h.len,λi x hx=>let ⟨v,a,b⟩:=h.at_ i x hx;⟨v,a,R.ext e x b⟩⟩
def Rs.len:∀{xs:An}{vs:List V},Rs K mg ρ H xs vs->xs.length=vs.length
 | [],_,h=>by cases h;rfl
 | x::xs,_,h=>by
  obtain ⟨v,r,rfl,_,h3⟩:=h
  simp [Rs.len h3]
def Rs.get:∀{xs:An}{vs:List V}{i:Nat}{x:PV},Rs K mg ρ H xs vs->xs[i]?=some x->∃v,vs[i]?=some v/\R K mg ρ H x v
 | [],_,_,_,_,e=>by simp at e
 | x::xs,_,0,_,h,e=>by
  obtain ⟨v,r,rfl,h2,h3⟩:=h
  simp at e
  subst e
  exact ⟨v,by simp,h2⟩
 | x::xs,_,i+1,y,h,e=>by
  obtain ⟨v,r,rfl,h2,h3⟩:=h
  simp at e
  obtain ⟨v',h4,h5⟩:=Rs.get h3 e
  exact ⟨v',by simpa using h4,h5⟩
def Rs.append:∀{xs ys:An}{vs ws:List V},Rs K mg ρ H xs vs->Rs K mg ρ H ys ws->Rs K mg ρ H (xs++ys) (vs++ws)
 | [],_,_,_,h,h'=>by cases h;exact h'
 | x::xs,_,_,_,h,h'=>by
  obtain ⟨v,r,rfl,h2,h3⟩:=h
  exact ⟨v,r++_,rfl,h2,Rs.append h3 h'⟩
def Rs.take:∀{xs:An}{vs:List V}(n:Nat),Rs K mg ρ H xs vs->Rs K mg ρ H (xs.take n) (vs.take n)
 | [],_,n,h=>by cases h;simp [Rs]
 | x::xs,_,0,h=>by simp [Rs]
 | x::xs,_,n+1,h=>by
  obtain ⟨v,r,rfl,h2,h3⟩:=h
  exact ⟨v,_,rfl,h2,Rs.take n h3⟩
def Rs.drop:∀{xs:An}{vs:List V}(n:Nat),Rs K mg ρ H xs vs->Rs K mg ρ H (xs.drop n) (vs.drop n)
 | [],_,n,h=>by cases h;simp [Rs]
 | x::xs,_,0,h=>h
 | x::xs,_,n+1,h=>by
  obtain ⟨v,r,rfl,h2,h3⟩:=h
  exact Rs.drop n h3
def a8.set {env:zc}{σ:St}{x:PV}{v:V}(h:a8 K mg ρ H env σ) (i:Nat) (r:R K mg ρ H x v):a8 K mg ρ H (env.set i (some x)) (σ.set i (some v)):=by
 refine ⟨by simp [h.len],λj y hy=>?_⟩
 rw [List.getElem?_set] at hy ⊢
 by_cases cL:i=j
 ·subst cL
  by_cases hl:i<env.length
  ·rw [zA rfl,zA hl] at hy
   rw [zA rfl,zA (by rw [<-h.len];exact hl)]
   cases hy
   exact ⟨v,rfl,r⟩
  ·rw [zA rfl,zF hl] at hy
   cases hy
 ·rw [zF cL] at hy ⊢
  exact h.at_ j y hy
def a8.unset {env:zc}{σ:St}(h:a8 K mg ρ H env σ) (i:Nat):a8 K mg ρ H (env.set i none) (σ.set i none):=by
 refine ⟨by simp [h.len],λj y hy=>?_⟩
 rw [List.getElem?_set] at hy ⊢
 by_cases cL:i=j
 ·subst cL
  by_cases hl:i<env.length
  ·rw [zA rfl,zA hl] at hy
   cases hy
  ·rw [zA rfl,zF hl] at hy
   cases hy
 ·rw [zF cL] at hy ⊢
  exact h.at_ j y hy
def a8.cons {env:zc}{σ:St}{x:PV}{v:V}(h:a8 K mg ρ H env σ) (r:R K mg ρ H x v):a8 K mg ρ H (some x::env) (some v::σ):=by
 refine ⟨by simp [h.len],λj y hy=>?_⟩
 cases j with
 | zero=>simp at hy;subst hy;exact ⟨v,by simp,r⟩
 | succ j=>simp at hy;simpa using h.at_ j y hy
def a0.addr {st:ae}{n:Nat}{so:SO}(s:a0 K mg ρ H st) (e:st[n]?=some so) {a:Addr}(ha:ρ[n]?=some a):fh K mg ρ H so a:=by
 obtain ⟨b,hb,h⟩:=s.at_ n so e
 rw [ha] at hb
 cases hb
 exact h
def fh.some {so:SO}{a:Addr}(h:fh K mg ρ H so a):∃o,H a=some o/\True:=by
 cases so with
 | lst xs=>obtain ⟨vs,h,_⟩:=h;exact ⟨_,h,trivial⟩
 | dic ks xs=>obtain ⟨vs,h,_⟩:=h;exact ⟨_,h,trivial⟩
 | ins c ks xs=>obtain ⟨C,dx,vs,_,h,_⟩:=h;exact ⟨_,h,trivial⟩
 | fdi ks xs=>obtain ⟨o,vs,h,_⟩:=h;exact ⟨_,h,trivial⟩
 | dit ks xs=>obtain ⟨its,vs,h,_⟩:=h;exact ⟨_,h,trivial⟩
def a0.in_ {st:ae}{n:Nat}{a:Addr}(s:a0 K mg ρ H st) (h:ρ[n]?=some a):∃so,st[n]?=some so/\fh K mg ρ H so a:=by
 have hl:n<st.length:=by rw [<-s.len];exact (yr.mp h).1
 refine ⟨st[n],by simp [hl],s.addr (by simp [hl]) h⟩
def fh.ext' {so:SO}{a:Addr}(e:Ext ρ H ag H1) (h:fh K mg ρ H so a) (k:H1 a=H a):fh K mg ag H1 so a:=by
 cases so with
 | lst xs=>obtain ⟨vs,h1,h2⟩:=h;exact ⟨vs,by rw [k];exact h1,Rs.ext e xs h2⟩
 | dic ks xs=>obtain ⟨vs,h1,h2,h3⟩:=h;exact ⟨vs,by rw [k];exact h1,Rs.ext e xs h2,h3⟩
 | ins c ks xs=>obtain ⟨C,dx,vs,h0,h1,h2,h3⟩:=h;exact ⟨C,dx,vs,h0,by rw [k];exact h1,Rs.ext e xs h2,h3⟩
 | fdi ks xs=>obtain ⟨o,vs,h1,h2,h3⟩:=h;exact ⟨o,vs,by rw [k];exact h1,Rs.ext e xs h2,h3⟩
 | dit ks xs=>obtain ⟨its,vs,h1,h2,h3,h4,h5⟩:=h;exact ⟨its,vs,by rw [k];exact h1,h2,λx hx=>e.sqT (h3 x hx),h4,Rs.ext e xs h5⟩
def Ext.new {p:Addr}{o:HO}(hp:H p=none):Ext ρ H ρ (upd H p o) :=
 ⟨⟨[],by simp⟩,λa o' h _=>by rw [zM (wG h hp)];exact h⟩
def a0.new {st:ae}{p:Addr}{o:HO}(s:a0 K mg ρ H st) (hp:H p=none):a0 K mg ρ (upd H p o) st :=
 ⟨s.len,s.nd,λn so e=>by
  obtain ⟨a,ha,h⟩:=s.at_ n so e
  obtain ⟨o',ho,_⟩:=h.some
  exact ⟨a,ha,h.ext' (Ext.new hp) (zM (wG ho hp))⟩⟩
def Ext.push {p:Addr}{o:HO}(hp:H p=none):Ext ρ H (ρ++[p]) (upd H p o) :=
 ⟨⟨[p],rfl⟩,λa o' h _=>by rw [zM (wG h hp)];exact h⟩
def a0.push {st:ae}{p:Addr}{o:HO}{so:SO}(s:a0 K mg ρ H st) (hp:H p=none) (n:fh K mg (ρ++[p]) (upd H p o) so p):a0 K mg (ρ++[p]) (upd H p o) (st++[so]):=by
 refine ⟨by simp [s.len],?_,λi gH e=>?_⟩
 ·refine List.nodup_append.mpr ⟨s.nd,by simp,λa ha b hb=>?_⟩
  obtain rfl:b=p:=by simpa using hb
  obtain ⟨n,hn⟩:=List.getElem?_of_mem ha
  obtain ⟨gH,_,h⟩:=s.in_ hn
  obtain ⟨o',ho,_⟩:=h.some
  exact wG ho hp
 ·by_cases hi:i<st.length
  ·rw [g8 hi] at e
   obtain ⟨a,ha,h⟩:=s.at_ i gH e
   obtain ⟨o',ho,_⟩:=h.some
   exact ⟨a,(Ext.push (o:=o) hp).get ha,h.ext' (Ext.push hp) (zM (wG ho hp))⟩
  ·rw [iW (by omega)] at e
   have pP:i=st.length:=by
    have:=(yr.mp e).1
    simp at this
    omega
   subst pP
   simp at e
   subst e
   exact ⟨p,by rw [<-s.len];simp,n⟩
def Ext.write {a:Addr}{o o':HO}(ha:H a=some o) (hi:tI o=false):Ext ρ H ρ (upd H a o') :=
 ⟨⟨[],by simp⟩,λb u h m=>by
  rw [zM]
  ·exact h
  ·intro z;subst z;rw [ha] at h;cases h;rw [hi] at m;cases m⟩
def a0.write {st:ae}{n:Nat}{a:Addr}{o':HO}{so:SO}(s:a0 K mg ρ H st) (hn:ρ[n]?=some a) (ew:Ext ρ H ρ (upd H a o')) (h:fh K mg ρ (upd H a o') so a):a0 K mg ρ (upd H a o') (st.set n so):=by
 refine ⟨by simp [s.len],s.nd,λi gH e=>?_⟩
 rw [List.getElem?_set] at e
 by_cases cL:n=i
 ·subst cL
  rw [zA rfl] at e
  split at e
  ·cases e;exact ⟨a,hn,h⟩
  ·cases e
 ·rw [zF cL] at e
  obtain ⟨b,hb,q⟩:=s.at_ i gH e
  have ne:b≠a:=by
   intro z
   subst z
   obtain ⟨h1,h2⟩:=yr.mp hn
   obtain ⟨h3,h4⟩:=yr.mp hb
   have pw:=List.pairwise_iff_getElem.mp s.nd
   rcases Nat.lt_trichotomy n i with c|c|c
   ·exact pw n i h1 h3 c (h2.trans h4.symm)
   ·exact cL c
   ·exact pw i n h3 h1 c (h4.trans h2.symm)
  exact ⟨b,hb,q.ext' ew (zM ne)⟩
section
variable {α β:Type}{E:XK}{good:List Addr->Hp->α->ae->Prop}
def Out.ext {r:Res α}(h:Out K mg ρ H r good E) (e:Ext ρ H ag H1):Out K mg ag H1 r good E:=by
 cases r with
 | ok x st=>exact λaj H' e' s=>h aj H' (e.trans e') s
 | err c ks xs st=>exact λaj H' C d e' s x=>h aj H' C d (e.trans e') s x
 | stuck=>exact h
def Out.mono {r:Res α}{dz:List Addr->Hp->α->ae->Prop}(h:Out K mg ρ H r good E) (g:∀aj H' x st,Ext ρ H aj H'->a0 K mg aj H' st->good aj H' x st->dz aj H' x st):Out K mg ρ H r dz E:=by
 cases r with
 | ok x st=>exact λaj H' e' s=>g aj H' x st e' s (h aj H' e' s)
 | err c ks xs st=>exact h
 | stuck=>exact h
def Out.bind {r:Res β}{f:β->Mo α}(h:Out K mg ρ H (r.bind f) good E):Out K mg ρ H r (λaj H' x st=>Out K mg aj H' (f x st) good E) E:=by
 cases r with
 | ok x st=>exact λaj H' e' s=>Out.ext h e'
 | err c ks xs st=>exact h
 | stuck=>exact h
def Out.then {r:Res β}{f:β->Mo α}{dz:List Addr->Hp->β->ae->Prop}(h:Out K mg ρ H (r.bind f) good E) (g:∀aj H' x st,Ext ρ H aj H'->a0 K mg aj H' st->Out K mg aj H' (f x st) good E->dz aj H' x st):Out K mg ρ H r dz E:=h.bind.mono g
def Out.now {x:α}{st:ae}(h:Out K mg ρ H (.ok x st) good E) (s:a0 K mg ρ H st):good ρ H x st:=h ρ H Ext.refl s
end
end
end Mi
namespace Mi
open PySem L2 PySem.W PySem.Spec
abbrev lim:Nat:=1000000
def y4 {n:Nat}(h:n<=lim):n<=sizeLine:=by rw [sizeLine_eq];show n<=16777216;exact y8 h (by decide)
section
variable (K:Frag) (mg:Ab)
def tM (Er:XK) (f:Ai):TE:=fun σ H Q=>∃env st ρ,a8 K mg ρ H env σ/\a0 K mg ρ H st/\Out K mg ρ H (f env st) (gV K mg Q) Er
def lW (Er:XK) (f:Ak):TT:=fun σ H Q=>∃env st ρ,a8 K mg ρ H env σ/\a0 K mg ρ H st/\Out K mg ρ H (f env st) (gB Q) Er
def KJ (Er:XK) (f:Ah):TA:=fun σ H Q=>∃env st ρ,a8 K mg ρ H env σ/\a0 K mg ρ H st/\Out K mg ρ H (f env st) (KI K mg Q) Er
def sM (Er:XK) (f:Aj):TS:=λD σ H=>∃env st ρ,a8 K mg ρ H env σ/\a0 K mg ρ H st/\Out K mg ρ H (f env st) (gS K mg D) Er
end
def ME (X:Cx) (Er:XK) (e:Expr) (f:Ai):Prop:=PE X e (tM X.K X.mg Er f)
def MT (X:Cx) (Er:XK) (e:Expr) (f:Ak):Prop:=PT X e (lW X.K X.mg Er f)
def MW (X:Cx) (Er:XK) (e:Expr) (f:Ak):Prop:=PW X e (lW X.K X.mg Er f)
def MA (X:Cx) (Er:XK) (e:List Expr) (f:Ah):Prop:=PA X e (KJ X.K X.mg Er f)
def MS (X:Cx) (Er:XK) (e:Stmt) (f:Aj):Prop:=PS X e (sM X.K X.mg Er f)
def dc (X:Cx) (Er:XK) (e:List Stmt) (f:Aj):Prop:=bS X e (sM X.K X.mg Er f)
section
variable {X:Cx}{Er:XK}{e a b c:Expr}{es:List Expr}{pos:Pos}{t t':TE}
def PE.weak (h:PE X e t) (w:∀σ H Q,t' σ H Q->t σ H Q):PE X e t':=λpins s σ H Q I q=>h pins s σ H Q I (w σ H Q q)
def PT.weak {t t':TT}(h:PT X e t) (w:∀σ H Q,t' σ H Q->t σ H Q):PT X e t':=λpins s σ H Q I q=>h pins s σ H Q I (w σ H Q q)
def PW.weak {t t':TT}(h:PW X e t) (w:∀σ H Q,t' σ H Q->t σ H Q):PW X e t':=λwh pins s σ H Q I q=>h wh pins s σ H Q I (w σ H Q q)
def PA.weak {t t':TA}(h:PA X es t) (w:∀σ H Q,t' σ H Q->t σ H Q):PA X es t':=λpos pins s σ H Q I q=>h pos pins s σ H Q I (w σ H Q q)
def PS.weak {st:Stmt}{t t':TS}(h:PS X st t) (w:∀D σ H,t' D σ H->t D σ H):PS X st t':=λpins s σ H D I q=>h pins s σ H D I (w D σ H q)
def bS.weak {st:List Stmt}{t t':TS}(h:bS X st t) (w:∀D σ H,t' D σ H->t D σ H):bS X st t':=λpins s σ H D I q=>h pins s σ H D I (w D σ H q)
def zd (i:Nat):Ai:=λenv st=>match env[i]? with
 | some (some x)=>.ok x st
 | _=>.stuck
def mC (x:PV):Ai:=λ_ st=>.ok x st
def zf (i:Nat) {x:Str} {pos:Pos} (hN:X.N[i]?=some x:=by rfl) (hv:mO X.env.scope x:=by first|exact Or.inl rfl|exact Or.inr (Or.inl rfl)|exact Or.inr (Or.inr rfl)) (hd:(x==("__debug__" : Str))=false:=by decide)
  (dU:(x==("__classdict__" : Str))=false:=by decide):ME X Er (.Name x pos) (zd i):=PE.weak (xi hN hv hd dU) fun σ H Q ⟨env,st,ρ,re,rs,h⟩=>by
 unfold zd at h
 split at h
 ·rename_i x' hx
  obtain ⟨v,h1,h2⟩:=re.at_ i x' hx
  exact ⟨v,h1,h.now rs v h2⟩
 ·exact h.elim
def lX {x:PV}{v:V}(hp:PE X e (tC v)) (hr:∀ρ H,R X.K X.mg ρ H x v):ME X Er e (mC x):=PE.weak hp fun σ H Q ⟨env,st,ρ,re,rs,h⟩=>h.now rs v (hr ρ H)
def zu {i:Int}{j}:ME X Er (.Constant (.int i) j pos) (mC (.int i)):=lX Gx λ_ _=>rfl
def zT {x:Str}{j}:ME X Er (.Constant (.str x) j pos) (mC (.str x)):=lX GA λ_ _=>rfl
def zbU {b:Bool}{j}:ME X Er (.Constant (.bool b) j pos) (mC (.bl b)):=lX Gy λ_ _=>rfl
def zbg {j}:ME X Er (.Constant .none j pos) (mC .non):=lX Gz λ_ _=>rfl
def KL {x:Str} {p:PV} {v:V} {u:Value} (hm:X.mg x=some u) (r:RelV v u) (hr:∀ρ H,R X.K X.mg ρ H p v) (hg:Gl X x:=by rfl) (hd:(x==("__debug__" : Str))=false:=by decide):ME X Er (.Name x pos) (mC p):=lX (rX hg hm r hd) hr
def dJ (K:Frag) (mg:Ab) (r:R2) (op:Am):Prop:=∀ρ H st x y v w (Q:VK) (E:XK),a0 K mg ρ H st->R K mg ρ H x v->R K mg ρ H y w->Out K mg ρ H (op x y st) (gV K mg Q) E->r v w H Q
def zh (op:Am) (fa fb:Ai):Ai:=λenv st=>(fa env st).bind λx aa=>(fb env aa).bind λy aK=>op x y aK
variable {fa fb fc:Ai}
def p8 {r:R2}{op:Am}{K:Frag}{mg:Ab}(hm:dJ K mg r op) {σ:St}{H:Hp}{Q:VK}(h:tM K mg Er (zh op fa fb) σ H Q):mY r (tM K mg Er fa) (tM K mg Er fb) σ H Q:=by
 obtain ⟨env,st,ρ,re,rs,h⟩:=h
 exact ⟨env,st,ρ,re,rs,h.then λag H1 x aa e1 s1 h1 v rv=>⟨env,aa,ag,re.ext e1,s1,h1.then λao H2 y aK e2 s2 h2 w rw=>hm ao H2 aK x y v w Q Er s2 (R.ext e2 x rv) rw h2⟩⟩
def KN {o:Operator}{r:R2}{op:Am}(ho:bg X (binaryOp o) r) (hm:dJ X.K X.mg r op) (ha:ME X Er a fa) (hb:ME X Er b fb):ME X Er (.BinOp a o b pos) (zh op fa fb) :=
 PE.weak (Hu ho ha hb) fun σ H Q h=>p8 hm h
def KO {o:CmpOp}{r:R2}{op:Am}(ho:bg X (compareOp o) r) (hm:dJ X.K X.mg r op) (ha:ME X Er a fa) (hb:ME X Er b fb) (hk:behindInMarks o b=false):ME X Er (.Compare a [o] [b] pos) (zh op fa fb) :=
 PE.weak (HH ho ha hb hk) fun σ H Q h=>p8 hm h
def fN:PV->Mo Bool
 | .bl b,st=>.ok b st
 | _,_=>.stuck
def mB (f:Ai):Ak:=λenv st=>(f env st).bind fN
def KP {K:Frag}{mg:Ab}{ρ:Ae}{H:Hp}{x:PV}{st:ae}{Q:Bool->Hp->Prop}(s:a0 K mg ρ H st) (h:Out K mg ρ H (fN x st) (gB Q) Er) {v:V}(r:R K mg ρ H x v):∃k,v=.bl k/\Q k H:=by
 unfold fN at h
 split at h
 ·cases r;exact ⟨_,rfl,h.now s⟩
 ·exact h.elim
def tJ {α:Type}{K:Frag}{mg:Ab}{ρ:Ae}{H:Hp}{x:PV}{st:ae}{f:Bool->Mo α}{good:List Addr->Hp->α->ae->Prop}(h:Out K mg ρ H ((fN x st).bind f) good Er):∃k,x=.bl k/\Out K mg ρ H (f k st) good Er:=by
 cases x with
 | bl k=>exact ⟨k,rfl,h⟩
 | _=>exact h.elim
def tK {f:Ai}{K:Frag}{mg:Ab}{σ:St}{H:Hp}{Q:Bool->Hp->Prop}(h:lW K mg Er (mB f) σ H Q):tM K mg Er f σ H λx H1=>∃c,x=.bl c/\Q c H1:=by
 obtain ⟨env,st,ρ,re,rs,h⟩:=h
 exact ⟨env,st,ρ,re,rs,h.then λag H1 x aa e1 s1 h1 v rv=>KP s1 h1 rv⟩
def KQ {o:CmpOp}{r:R2}{op:Am}(ho:bg X (compareOp o) r) (hm:dJ X.K X.mg r op) (ha:ME X Er a fa) (hb:ME X Er b fb) (hk:behindInMarks o b=false):MT X Er (.Compare a [o] [b] pos) (mB (zh op fa fb)) :=
 PT.weak (xA ho ha hb hk) fun σ H Q h=>p8 hm (tK h)
def jD (h:ME X Er e fa) (he:∀whole,isTrue e X.env whole=(do let v <-whole;standAt e.pos;holding [v] (truthy v)):=by intro _;rfl):MT X Er e (mB fa) :=
 PT.weak (GC h he) fun σ H Q h=>tK h
def nM (op di:Am) (fa fb fc:Ai):Ai:=λenv st=>(fa env st).bind λx aa=>(fb env aa).bind λy aK=>(op x y aK).bind λk aX=>(fN k aX).bind λb eU =>
 if b=true then (fc env eU).bind λz cU=>di y z cU else .ok (.bl false) eU
def KR {r r':R2}{op di:Am}{K:Frag}{mg:Ab}(hm:dJ K mg r op) (hm':dJ K mg r' di) {σ:St}{H:Hp}{Q:VK}(h:tM K mg Er (nM op di fa fb fc) σ H Q):xB r r' (tM K mg Er fa) (tM K mg Er fb) (tM K mg Er fc) σ H Q:=by
 obtain ⟨env,st,ρ,re,rs,h⟩:=h
 refine ⟨env,st,ρ,re,rs,h.then λag H1 x aa e1 s1 h1 v rv=>⟨env,aa,ag,re.ext e1,s1,h1.then λao H2 y aK e2 s2 h2 w rw=>?_⟩⟩
 refine hm ao H2 aK x y v w _ Er s2 (R.ext e2 x rv) rw (h2.then λal H3 z aX e3 s3 h3 u ru=>?_)
 obtain ⟨b,rfl,h4⟩:=tJ h3
 cases ru
 refine ⟨b,rfl,?_⟩
 cases b with
 | true=>exact ⟨env,aX,al,((re.ext e1).ext e2).ext e3,s3,Out.then (f:=λz cU=>di y z cU) h4 λaM H5 z cU e5 s5 h5 w' rw'=>hm' aM H5 cU y z w w' Q Er s5 (R.ext e5 y (R.ext e3 y rw)) rw' h5⟩
 | false=>exact Out.now (x:=PV.bl false) h4 s3 _ rfl
def KS {o o':CmpOp}{r r':R2}{op di:Am}(ho:bg X (compareOp o) r) (hm:dJ X.K X.mg r op) (ho':bg X (compareOp o') r') (hm':dJ X.K X.mg r' di) (ha:ME X Er a fa) (hb:ME X Er b fb) (hc:ME X Er c fc)
  (hk:lastMarks [o,o'] [b,c]=false:=by with_unfolding_all rfl):ME X Er (.Compare a [o,o'] [b,c] pos) (nM op di fa fb fc):=PE.weak (HJ ho ho' ha hb hc hk) fun σ H Q h=>KR hm hm' h
def Bu (K:Frag) (mg:Ab) (r:V->Hp->VK->Prop) (op:PV->Mo PV):Prop:=∀ρ H st x v (Q:VK) (E:XK),a0 K mg ρ H st->R K mg ρ H x v->Out K mg ρ H (op x st) (gV K mg Q) E->r v H Q
def yz (op:PV->Mo PV) (fa:Ai):Ai:=λenv st=>(fa env st).bind op
def KU {o:UnaryOp}{r:V->Hp->VK->Prop}{op:PV->Mo PV}(ho:mX X (unaryOp o) r) (hm:Bu X.K X.mg r op) (ha:ME X Er a fa):ME X Er (.UnaryOp o a pos) (yz op fa) :=
 PE.weak (Hv ho ha) fun σ H Q ⟨env,st,ρ,re,rs,h⟩=>⟨env,st,ρ,re,rs,h.then λag H1 x aa e1 s1 h1 v rv=>hm ag H1 aa x v Q Er s1 rv h1⟩
variable {ga gb:Ak}{rest:List Expr}
def jE (ga gb:Ak):Ak:=λenv st=>(ga env st).bind λc aa=>if c=true then gb env aa else .ok false aa
def wJ (ga gb:Ak):Ak:=λenv st=>(ga env st).bind λc aa=>if c=true then .ok true aa else gb env aa
def lY (ga:Ak):Ak:=λenv st=>(ga env st).bind λc aa=>.ok (!c) aa
def zbi (ha:MT X Er a ga):MW X Er (.BoolOp .And [a] pos) ga:=GH ha
def zeg (ha:MT X Er a ga):MW X Er (.BoolOp .Or [a] pos) ga:=GI ha
def zaN (ha:MT X Er a ga) (hb:MW X Er (.BoolOp .And (b::rest) pos) gb):MW X Er (.BoolOp .And (a::b::rest) pos) (jE ga gb) :=
 PW.weak (GJ ha hb) fun σ H Q ⟨env,st,ρ,re,rs,h⟩=>⟨env,st,ρ,re,rs,h.then λag H1 k aa e1 s1 h1=>by
  cases k with
  | true=>exact ⟨env,aa,ag,re.ext e1,s1,h1⟩
  | false=>exact h1.now s1⟩
def zcK (ha:MT X Er a ga) (hb:MW X Er (.BoolOp .Or (b::rest) pos) gb):MW X Er (.BoolOp .Or (a::b::rest) pos) (wJ ga gb) :=
 PW.weak (GK ha hb) fun σ H Q ⟨env,st,ρ,re,rs,h⟩=>⟨env,st,ρ,re,rs,h.then λag H1 k aa e1 s1 h1=>by
  cases k with
  | false=>exact ⟨env,aa,ag,re.ext e1,s1,h1⟩
  | true=>exact h1.now s1⟩
def wV {op:BoolOp}(h:MW X Er (.BoolOp op es pos) ga):MT X Er (.BoolOp op es pos) ga:=PW.pt h
def zeh (ha:MT X Er a ga):MT X Er (.UnaryOp .Not a pos) (lY ga):=PT.weak (GL ha) fun σ H Q ⟨env,st,ρ,re,rs,h⟩=>⟨env,st,ρ,re,rs,h.then λag H1 k aa e1 s1 h1=>h1.now s1⟩
def kB (fa fb:Ai):Ai:=λenv st=>(fa env st).bind λx aa=>(fN x aa).bind λc aK=>if c=true then fb env aK else .ok (.bl false) aK
def p9 (fa:Ai):Ai:=λenv st=>(fa env st).bind λx aa=>(fN x aa).bind λc aK=>.ok (.bl (!c)) aK
def zei {op}(h:ME X Er a fa):ME X Er (.BoolOp op [a] pos) fa:=GP h
def zcM (ha:ME X Er a fa) (hb:ME X Er (.BoolOp .And (b::rest) pos) fb):ME X Er (.BoolOp .And (a::b::rest) pos) (kB fa fb) :=
 PE.weak (GQ ha hb) fun σ H Q ⟨env,st,ρ,re,rs,h⟩=>⟨env,st,ρ,re,rs,h.then λag H1 x aa e1 s1 h1 v rv=>by
  obtain ⟨k,rfl,h1⟩:=tJ h1
  cases rv
  refine ⟨k,rfl,?_⟩
  cases k with
  | true=>exact ⟨env,aa,ag,re.ext e1,s1,h1⟩
  | false=>exact Out.now (x:=PV.bl false) h1 s1 _ rfl⟩
def zou (ha:ME X Er a fa):ME X Er (.UnaryOp .Not a pos) (p9 fa) :=
 PE.weak (GR ha) fun σ H Q ⟨env,st,ρ,re,rs,h⟩=>⟨env,st,ρ,re,rs,h.then λag H1 x aa e1 s1 h1 v rv=>by
  obtain ⟨k,rfl,h1⟩:=tJ h1
  cases rv
  exact ⟨k,rfl,Out.now (x:=PV.bl (!k)) h1 s1 _ rfl⟩⟩
def Bv (g:Ak) (fa fb:Ai):Ai:=λenv st=>(g env st).bind λc aa=>if c=true then fa env aa else fb env aa
def zov {c:Expr}(hc:MT X Er c ga) (ha:ME X Er a fa) (hb:ME X Er b fb):ME X Er (.IfExp c a b pos) (Bv ga fa fb) :=
 PE.weak (GU hc ha hb) fun σ H Q ⟨env,st,ρ,re,rs,h⟩=>⟨env,st,ρ,re,rs,h.then λag H1 k aa e1 s1 h1=>by
  cases k with
  | true=>exact ⟨env,aa,ag,re.ext e1,s1,h1⟩
  | false=>exact ⟨env,aa,ag,re.ext e1,s1,h1⟩⟩
def zk:Ah:=λ_ st=>.ok [] st
def ze (f:Ai) (fs:Ah):Ah:=λenv st=>(f env st).bind λx aa=>(fs env aa).bind λxs aK=>.ok (x::xs) aK
variable {fs:Ah}
def zo:MA X Er [] zk:=PA.weak pJ fun σ H Q ⟨env,st,ρ,re,rs,h⟩=>h.now rs [] rfl
def Bw (ha:ME X Er e fa) (hr:MA X Er es fs) (hs:starEach (e::es) X.env=(false,eval e X.env)::starEach es X.env:=by rfl):MA X Er (e::es) (ze fa fs) :=
 PA.weak (pK ha hr hs) fun σ H Q ⟨env,st,ρ,re,rs,h⟩=>⟨env,st,ρ,re,rs,h.then λag H1 x aa e1 s1 h1 v rv=>⟨env,aa,ag,re.ext e1,s1,h1.then λao H2 xs aK e2 s2 h2 vs nO =>
  h2.now s2 (v::vs) ⟨v,vs,rfl,R.ext e2 x rv,nO⟩⟩⟩
def zW (fs:Ah):Ai:=λenv st=>(fs env st).bind λxs aa=>if xs.length<=lim then .ok (.tup xs) aa else .stuck
def y6 (fs:Ah):Ai:=λenv st=>(fs env st).bind λxs aa=>if xs.length<=lim then .ok (.ref aa.length) (aa++[.lst xs]) else .stuck
def R.tup_of {K:Frag}{mg:Ab}{ρ:Ae}{H:Hp}{xs:An}{vs:List V}{p:Addr}(r:Rs K mg ρ H xs vs) (hp:H p=none):R K mg ρ (upd H p (.tup vs)) (.tup xs) (.ref p) :=
 ⟨p,vs,rfl,ba.of yC,Rs.ext (Ext.new hp) xs r⟩
def yk {x1}(h:MA X Er es fs):ME X Er (.Tuple es x1 pos) (zW fs) :=
 PE.weak (Ih h) fun σ H Q ⟨env,st,ρ,re,rs,h⟩=>⟨env,st,ρ,re,rs,h.then λag H1 xs aa e1 s1 h1 vs rv=>by
  split at h1
  ·rename_i hl
   exact ⟨by rw [<-rv.len];exact y4 hl,λp hp=>h1 ag _ (Ext.new hp) (s1.new hp) _ (R.tup_of rv hp)⟩
  ·exact h1.elim⟩
def Out.newList {K:Frag}{mg:Ab}{ρ:Ae}{H:Hp}{st:ae}{xs:An}{vs:List V}{p:Addr}{Q:VK}(h:Out K mg ρ H (.ok (.ref st.length) (st++[.lst xs])) (gV K mg Q) Er) (s:a0 K mg ρ H st) (r:Rs K mg ρ H xs vs) (hp:H p=none):Q (.ref p) (upd H p (.lst vs)) :=
 h (ρ++[p]) _ (Ext.push hp) (s.push hp ⟨vs,yC,Rs.ext (Ext.push hp) xs r⟩) _ ⟨p,rfl,by rw [<-s.len];simp⟩
def jQ (h:MA X Er es fs):ME X Er (.List es pos) (y6 fs) :=
 PE.weak (Ii h) fun σ H Q ⟨env,st,ρ,re,rs,h⟩=>⟨env,st,ρ,re,rs,h.then λag H1 xs aa e1 s1 h1 vs rv=>by
  split at h1
  ·rename_i hl
   exact ⟨by rw [<-rv.len];exact y4 hl,λp hp=>Out.newList h1 s1 rv hp⟩
  ·exact h1.elim⟩
def KW {r:R2}{op:Am}(ho:eQ X r) (hm:dJ X.K X.mg r op) (ha:ME X Er a fa) (hb:ME X Er b fb) (hs:d_ b:=by exact λ_ _=>rfl):ME X Er (.Subscript a b pos) (zh op fa fb) :=
 PE.weak (x5 ho ha hb hs) fun σ H Q h=>p8 hm h
end
end Mi
namespace HT
open PySem PySem.Spec PyProof.Rows
section
variable {prog:Program}{w:World}{A:Around}{E:Aa}{s:Shared}
def getItem_tuple_all {t sl:Addr}{items:Array Value}{vl vu:Value}{lo hi:Option Int}{Q:Aa}(ht:IsTup s.heap t items) (hs:s.heap.IsSliceOf sl vl vu .none) (pl:IsPart vl lo) (pu:IsPart vu hi)
  (hw:sIx items.size 0 lo=0/\sIx items.size items.size hi=items.size) (h:Q (.ref t) s)
  (hsz:items.size<=sizeLine):wpAny (model prog w) A (getItem (.ref t) (.ref sl)) Q E s:=by
 obtain ⟨os,i6,pL,m5⟩:=id hs
 have sr:s.TypeIs (.ref sl) "slice" := ⟨os,i6,pL⟩
 unfold getItem
 try with_reducible refine jU ?_
 first|refine zl (zG ?_)|skip
 refine zl (wpAny_sequenceKey ht.typeIs (by decide) ?_)
 refine zl (wpAny_callSpecial?_slot (name:=Str.ofString "__getitem__") ht.typeIs PyProof.Rows.slot_tuple_getitem
  (jJ PyProof.Rows.slot_tuple_getitem ht.typeIs entry_tuple_getitem ?_ (args_tuple_getitem _ _)))
 show wpAny _ _ (Builtin.Tuple.tupleItemsOf (.ref t) >>= _) _ _ s
 refine zl (tupleItemsOf_ ht ?_)
 refine zl (wpAny_typeOf sr ?_)
 rw [zA (by decide)]
 refine zl (xX hs pl pu ?_)
 have Bx:(((sIx items.size 0 lo:Nat):Int)==0&&(1:Int)==1&&(sIx items.size items.size hi-sIx items.size 0 lo)==items.size)=true:=by
  rw [hw.1,hw.2];simp
 show wpAny _ _ (if (((sIx items.size 0 lo:Nat):Int)==0&&(1:Int)==1&&(sIx items.size items.size hi-sIx items.size 0 lo)==items.size)=true then _ else _) _ _ s
 rw [zA Bx]
 unfold Builtin.Tuple.tupleIsExact
 refine zl (zl (wpAny_typeOf ht.typeIs (zG ?_)))
 rw [zA (by decide)]
 exact zl (iU (zG ⟨_,rfl,zG h⟩))
def cat_tup0 {t b:Addr}{ws:Af}{Q:Aa}(ht:IsTup s.heap t #[]) (hb:IsTup s.heap b ws.toArray) (h1:Q (.ref b) s):wpAny (model prog w) A (binaryOp .Add (.ref t) (.ref b)) Q E s:=by
 obtain ⟨⟨cls,dd,data,sl⟩,ho,hc,n,hd⟩:=id ht
 obtain ⟨⟨rH,i5,data2,fB⟩,ho2,fC,n2,hd2⟩:=id hb
 simp only at hc hd fC hd2
 subst hc hd fC hd2
 exact concat_meets ⟨_,ho,rfl⟩ ⟨_,ho2,rfl⟩ noFill_tuple_add seq_tuple_add PySem.F.slot_tuple_add PySem.F.entry_tuple_add (PySem.F.args_tuple_add_2 _ _)
   (tuple_addW0 t b #[] ws.toArray n n2 dd i5 sl fB (by simp)) ⟨ho,ho2,h1⟩
end
end HT
namespace Mi
open PySem L2 PySem.W PySem.Spec
section
variable {X:Cx}{Er:XK}{K:Frag}{mg:Ab}
def dA (X:Cx) (o:Operator) (op:Am):Prop:=∃r,bg X (binaryOp o) r/\dJ X.K X.mg r op
def bC (X:Cx) (o:CmpOp) (op:Am):Prop:=∃r,bg X (compareOp o) r/\dJ X.K X.mg r op
def lj (X:Cx) (op:Am):Prop:=∃r,eQ X r/\dJ X.K X.mg r op
def rL (X:Cx) (o:UnaryOp) (op:PV->Mo PV):Prop:=∃r,mX X (unaryOp o) r/\Bu X.K X.mg r op
variable {a b c e:Expr}{es:List Expr}{pos:Pos}{fa fb fc:Ai}{fs:Ah}
def yd {o:Operator}{op:Am}(h:dA X o op) (ha:ME X Er a fa) (hb:ME X Er b fb):ME X Er (.BinOp a o b pos) (zh op fa fb):=let ⟨_,h1,h2⟩:=h;KN h1 h2 ha hb
def tN {o:CmpOp}{op:Am}(h:bC X o op) (ha:ME X Er a fa) (hb:ME X Er b fb) (hk:behindInMarks o b=false:=by first|exact k9 _|with_unfolding_all rfl):ME X Er (.Compare a [o] [b] pos) (zh op fa fb):=let ⟨_,h1,h2⟩:=h;KO h1 h2 ha hb hk
def yb {o:CmpOp}{op:Am}(h:bC X o op) (ha:ME X Er a fa) (hb:ME X Er b fb) (hk:behindInMarks o b=false:=by first|exact k9 _|with_unfolding_all rfl):MT X Er (.Compare a [o] [b] pos) (mB (zh op fa fb)):=let ⟨_,h1,h2⟩:=h;KQ h1 h2 ha hb hk
def KY {o o':CmpOp}{op di:Am}(h:bC X o op) (h':bC X o' di) (ha:ME X Er a fa) (hb:ME X Er b fb) (hc:ME X Er c fc)
  (hk:lastMarks [o,o'] [b,c]=false:=by with_unfolding_all rfl):ME X Er (.Compare a [o,o'] [b,c] pos) (nM op di fa fb fc):=let ⟨_,h1,h2⟩:=h;let ⟨_,h3,h4⟩:=h';KS h1 h2 h3 h4 ha hb hc hk
def zB {op:Am}(h:lj X op) (ha:ME X Er a fa) (hb:ME X Er b fb) (hs:d_ b:=by exact λ_ _=>rfl):ME X Er (.Subscript a b pos) (zh op fa fb):=let ⟨_,h1,h2⟩:=h;KW h1 h2 ha hb hs
def By {o:UnaryOp}{op:PV->Mo PV}(h:rL X o op) (ha:ME X Er a fa):ME X Er (.UnaryOp o a pos) (yz op fa):=let ⟨_,h1,h2⟩:=h;KU h1 h2 ha
def Out.ifp {α:Type}{ρ:Ae}{H:Hp}{p:Prop} [Decidable p] {r:Res α}{good:List Addr->Hp->α->ae->Prop}(h:Out K mg ρ H (if p then r else .stuck) good Er):p/\Out K mg ρ H r good Er:=by
 split at h
 ·rename_i hp;exact ⟨hp,h⟩
 ·exact h.elim
def yp {α:Type}(st:ae) (n:Nat) (k:List PV->Res α):Res α:=match st[n]? with
 | some (.lst xs)=>k xs
 | _=>.stuck
def y9 {α:Type}(st:ae) (n:Nat) (k:List Str->List PV->Res α):Res α:=match st[n]? with
 | some (.dic ks xs)=>k ks xs
 | _=>.stuck
def yS {α:Type}(st:ae) (n:Nat) (k:Str->List Str->List PV->Res α):Res α:=match st[n]? with
 | some (.ins c ks xs)=>k c ks xs
 | _=>.stuck
def jm {α:Type}{ρ:Ae}{H:Hp}{st:ae}{n:Nat}{k:List PV->Res α}{good:List Addr->Hp->α->ae->Prop}(h:Out K mg ρ H (yp st n k) good Er):∃xs,st[n]?=some (.lst xs)/\Out K mg ρ H (k xs) good Er:=by
 unfold yp at h
 split at h
 ·rename_i xs e;exact ⟨xs,e,h⟩
 ·exact h.elim
def tO {α:Type}{ρ:Ae}{H:Hp}{st:ae}{n:Nat}{k:List Str->List PV->Res α}{good:List Addr->Hp->α->ae->Prop}(h:Out K mg ρ H (y9 st n k) good Er):∃ks xs,st[n]?=some (.dic ks xs)/\Out K mg ρ H (k ks xs) good Er:=by
 unfold y9 at h
 split at h
 ·rename_i ks xs e;exact ⟨ks,xs,e,h⟩
 ·exact h.elim
def Bz {α:Type}{ρ:Ae}{H:Hp}{st:ae}{n:Nat}{k:Str->List Str->List PV->Res α}{good:List Addr->Hp->α->ae->Prop}(h:Out K mg ρ H (yS st n k) good Er):∃c ks xs,st[n]?=some (.ins c ks xs)/\Out K mg ρ H (k c ks xs) good Er:=by
 unfold yS at h
 split at h
 ·rename_i c ks xs e;exact ⟨c,ks,xs,e,h⟩
 ·exact h.elim
def opI (C:Int->Int->Bool) (g:Int->Int->Int):Am
 | .int i,.int j,st=>if C i j=true then .ok (.int (g i j)) st else .stuck
 | _,_,_=>.stuck
def nP {C:Int->Int->Bool}{g:Int->Int->Int}{P:Int->Int->Prop}(hC:∀i j,C i j=true->P i j):dJ K mg (rI P λi j=>.int (g i j)) (opI C g):=by
 intro ρ H st x y v w Q E s rx ry h
 cases x with
 | int i =>
  cases y with
  | int j =>
   cases rx;cases ry
   obtain ⟨c,h⟩:=Out.ifp h
   exact ⟨i,j,rfl,rfl,hC i j c,h.now s _ rfl⟩
  | _=>exact h.elim
 | _=>exact h.elim
abbrev c0:Int->Int->Bool:=λ_ _=>true
def KZ {g:Int->Int->V}{f:Value->Value->Sem Value}(h:bg X f (wS g)):bg X f (rI (λ_ _=>True) g):=λpins s σ H x y v u Q I rx ry ⟨i,j,h1,h2,_,q⟩=>h pins s σ H x y v u Q I rx ry ⟨i,j,h1,h2,q⟩
abbrev wq:=opI c0 λi j=>i-j
abbrev bW:Int->Int->Bool:=λi j=>(decide (-(2 ^ 64)<i)&&decide (i<2 ^ 64))||(decide (-(2 ^ 64)<j)&&decide (j<2 ^ 64))
abbrev BA:=opI bW λi j=>i*j
abbrev gj:Int->Int->Bool:=λi j=>decide (0<=j)&&decide (j<=1000000)&&decide (i.natAbs<2 ^ 64)
abbrev wW:=opI gj λi j=>i ^ j.toNat
abbrev tP:Int->Int->Bool:=λ_ j=>decide (j≠0)
def yU (i j:Int):Int:=if 0<j then i%j else i.fmod j
abbrev yH:=opI tP yU
abbrev p_:Int->Int->Bool:=λ_ j=>decide (j≠0)&&decide (j.natAbs<2 ^ 200)
def yY (i j:Int):Int:=if 0<j then i/j else i.fdiv j
abbrev jF:=opI p_ yY
def qc (i j:Int):yU i j=i.fmod j:=by
 unfold yU;split
 ·rename_i h;rw [Int.fmod_eq_emod_of_nonneg _ (by omega)]
 ·rfl
def BB (i j:Int):yY i j=i.fdiv j:=by
 unfold yY;split
 ·rename_i h;rw [Int.fdiv_eq_ediv_of_nonneg _ (by omega)]
 ·rfl
def zan:dA X .Sub wq:=⟨_,KZ gr,nP λ_ _ _=>trivial⟩
def K0:dA X .Mult BA:=⟨_,gu,nP λi j h=>by simpa [bW,k8] using h⟩
def zcO:dA X .Pow wW:=⟨_,Hx,nP λi j h=>by simp [gj] at h;exact ⟨h.1.1,h.1.2,h.2⟩⟩
def jL:dA X .Mod yH:=⟨_,Hw,by
 have h:(λi j=>V.int (i.fmod j))=λi j=>V.int (yU i j):=by funext i j;rw [qc]
 rw [h];exact nP λi j h=>by simpa [tP] using h⟩
def K2 {y:Int}(h:y.natAbs<2 ^ 200):y.natAbs.log2<9000:=by
 by_cases h0:y.natAbs=0
 ·rw [h0];decide
 ·have:=(Nat.log2_lt h0).mpr h
  omega
def K3:bg X (binaryOp .FloorDiv) (rI (λ_ j=>j≠0/\j.natAbs<2 ^ 200) λi j=>.int (i.fdiv j)):=L2.opI λ_ _ _ _ _ _ _ hc q=>PyProof.Rows.floordiv_int hc.1 q (.inl (PyProof.noPylong_of_log2 (K2 hc.2)))
def zao:dA X .FloorDiv jF:=⟨_,K3,by
 have h:(λi j=>V.int (i.fdiv j))=λi j=>V.int (yY i j):=by funext i j;rw [BB]
 rw [h];exact nP λi j h=>by simpa [p_] using h⟩
def nQ:PV->Mo PV
 | .int i,st=>.ok (.int (-i)) st
 | _,_=>.stuck
def BC:rL X .USub nQ:=⟨_,Hz,by
 intro ρ H st x v Q E s rx h
 cases x with
 | int i=>cases rx;exact ⟨i,rfl,Out.now (x:=PV.int (-i)) h s _ rfl⟩
 | _=>exact h.elim⟩
def yx:Am
 | .int i,.int j,st=>.ok (.int (i+j)) st
 | .str x,.str y,st=>if x.length+y.length<=lim then .ok (.str (x++y)) st else .stuck
 | .tup xs,.tup ys,st=>if xs.length+ys.length<=lim then .ok (.tup (xs++ys)) st else .stuck
 | .ref n,.ref m,st=>yp st n λxs=>yp st m λys=>if xs.length+ys.length<=lim then .ok (.ref st.length) (st++[.lst (xs++ys)]) else .stuck
 | _,_,_=>.stuck
def K5 (K:Frag):R2:=λx y H Q=>∃a b ys,x=.ref a/\y=.ref b/\ba K H a []/\ba K H b ys/\Q (.ref b) H
def K8:bg X (binaryOp .Add) (K5 X.K):=by
 intro pins s σ H x y v u Q I rx ry h
 obtain ⟨a,b,ys,rfl,rfl,h1,h2,q⟩:=h
 cases rx;cases ry
 obtain ⟨i1,r1,p1,_⟩:=I.tuple h1
 obtain ⟨i2,r2,p2,_⟩:=I.tuple h2
 cases r1
 exact HT.cat_tup0 p1 p2 ⟨.ref b,H,I,rfl,q⟩
def jG:dA X .Add yx:=⟨_,gq.or (HK.or (K8.or (IK.or Ji))),by
 intro ρ H st x y v w Q E s rx ry h
 cases x with
 | int i =>
  cases y with
  | int j=>cases rx;cases ry;exact .inl ⟨i,j,rfl,rfl,Out.now (x:=PV.int (i+j)) h s _ rfl⟩
  | _=>exact h.elim
 | str i =>
  cases y with
  | str j =>
   cases rx;cases ry
   obtain ⟨c,h⟩:=Out.ifp h
   exact .inr (.inl ⟨i,j,rfl,rfl,y4 c,h.now s _ rfl⟩)
  | _=>exact h.elim
 | tup xs =>
  cases y with
  | tup ys =>
   obtain ⟨p,vs,rfl,h1,h2⟩:=rx
   obtain ⟨q,ws,rfl,h3,h4⟩:=ry
   obtain ⟨c,h⟩:=Out.ifp h
   cases xs with
   | nil =>
    cases h2
    exact .inr (.inr (.inl ⟨p,q,ws,rfl,rfl,h1,h3,h.now s _ ⟨q,ws,rfl,h3,h4⟩⟩))
   | cons x0 nR =>
    refine .inr (.inr (.inr (.inl ⟨p,q,vs,ws,rfl,rfl,h1,h3,?_,?_,λe=>?_,λ_ l hl=>?_⟩)))
    ·obtain ⟨v0,r0,e0,_⟩:=h2;rw [e0];simp
    ·rw [<-h2.len,<-h4.len];exact y4 c
    ·subst e
     have:ys=[]:=by have:=h4.len;simpa using this
     subst this
     exact h.now s _ ⟨p,vs,rfl,h1,by simpa using h2⟩
    ·exact h ρ _ (Ext.new hl) (s.new hl) _ (R.tup_of (h2.append h4) hl)
  | _=>exact h.elim
 | ref n =>
  cases y with
  | ref m =>
   obtain ⟨p,rfl,hp⟩:=rx
   obtain ⟨q,rfl,hq⟩:=ry
   obtain ⟨xs,e1,h⟩:=jm h
   obtain ⟨ys,e2,h⟩:=jm h
   obtain ⟨c,h⟩:=Out.ifp h
   obtain ⟨vs,h1,h2⟩:=s.addr e1 hp
   obtain ⟨ws,h3,h4⟩:=s.addr e2 hq
   exact .inr (.inr (.inr (.inr ⟨p,q,vs,ws,rfl,rfl,h1,h3,by rw [<-h2.len,<-h4.len];exact y4 c,λl hl=>Out.newList h s (h2.append h4) hl⟩)))
  | _=>exact h.elim
 | _=>exact h.elim⟩
def nS (g:Int->Int->Bool):Am
 | .int i,.int j,st=>.ok (.bl (g i j)) st
 | _,_,_=>.stuck
def tQ {g:Int->Int->Bool}:dJ K mg (wS λi j=>.bl (g i j)) (nS g):=by
 intro ρ H st x y v w Q E s rx ry h
 cases x with
 | int i =>
  cases y with
  | int j=>cases rx;cases ry;exact ⟨i,j,rfl,rfl,Out.now (x:=PV.bl (g i j)) h s _ rfl⟩
  | _=>exact h.elim
 | _=>exact h.elim
abbrev jX:=nS λi j=>decide (i<j)
abbrev jo:=nS λi j=>decide (j<i)
abbrev qd:=nS λi j=>decide (j<=i)
def wX:bC X .Lt jX:=⟨_,HB,tQ⟩
def zaP:bC X .Gt jo:=⟨_,HC,tQ⟩
def zoE:bC X .GtE qd:=⟨_,HD,tQ⟩
def cH:PV->Bool
 | .non=>true
 | _=>false
def BD:Am
 | x,.non,st=>.ok (.bl (cH x)) st
 | _,_,_=>.stuck
def BE:Am
 | x,.non,st=>.ok (.bl (!cH x)) st
 | _,_,_=>.stuck
def BF {ρ:Ae}{H:Hp}{x:PV}{v:V}(r:R K mg ρ H x v):decide (v=.non)=cH x:=by
 cases x with
 | non=>cases r;rfl
 | bl _=>cases r;rfl
 | int _=>cases r;rfl
 | str _=>cases r;rfl
 | ty _=>cases r;rfl
 | tup _=>obtain ⟨_,_,rfl,_⟩:=r;rfl
 | frl _=>obtain ⟨_,_,rfl,_⟩:=r;rfl
 | ref _=>obtain ⟨_,rfl,_⟩:=r;rfl
 | fn _=>obtain ⟨_,rfl,_⟩:=r;rfl
 | kd _ _=>obtain ⟨_,_,_,rfl,_⟩:=r;rfl
 | exo _ _ _=>obtain ⟨_,_,_,_,rfl,_⟩:=r;rfl
def K9:bC X .Is BD:=⟨_,HF,by
 intro ρ H st x y v w Q E s rx ry h
 cases y with
 | non=>cases ry;exact ⟨rfl,by rw [BF rx];exact Out.now (x:=PV.bl (cH x)) h s _ rfl⟩
 | _=>exact h.elim⟩
def K_:bC X .IsNot BE:=⟨_,HG,by
 intro ρ H st x y v w Q E s rx ry h
 cases y with
 | non=>cases ry;exact ⟨rfl,by rw [BF rx];exact Out.now (x:=PV.bl (!cH x)) h s _ rfl⟩
 | _=>exact h.elim⟩
def tR {ρ:Ae}{H:Hp}{xs:An}{vs:List V}{i:Int}{x:PV}(r:Rs K mg ρ H xs vs) (h:bI xs i=some x):∃v,bI vs i=some v/\R K mg ρ H x v:=by
 unfold bI at h ⊢
 rw [<-r.len]
 cases hj:dw xs.length i with
 | none=>rw [hj] at h;cases h
 | some j =>
  rw [hj] at h
  obtain ⟨v,h1,h2⟩:=r.get (show xs[j]?=some x from h)
  exact ⟨v,h1,h2⟩
def bA:Option PV->Mo PV
 | some x,st=>.ok x st
 | none,_=>.stuck
def tT:Am
 | .tup xs,.int i,st=>bA (bI xs i) st
 | .frl xs,.int i,st=>bA (bI xs i) st
 | .str z,.int i,st=>if z.length<=lim then bA ((bI z.cps.toList i).map λc=>.str ⟨#[c]⟩) st else .stuck
 | .ref n,.int i,st=>yp st n λxs=>bA (bI xs i) st
 | _,_,_=>.stuck
def wY {ρ:Ae}{H:Hp}{o:Ao}{st:ae}{good}(h:Out K mg ρ H (bA o st) good Er):∃x,o=some x/\Out K mg ρ H (.ok x st) good Er:=by
 cases o with
 | some x=>exact ⟨x,rfl,h⟩
 | none=>exact h.elim
def Lb:lj X tT:=⟨_,IW,by
 intro ρ H st x y v w Q E s rx ry h
 cases x with
 | tup xs =>
  cases y with
  | int i =>
   cases ry
   obtain ⟨p,vs,rfl,h1,h2⟩:=rx
   obtain ⟨x,e,h⟩:=wY h
   obtain ⟨v,h3,h4⟩:=tR h2 e
   exact .inr (.inl ⟨p,vs,i,v,rfl,rfl,h1,h3,h.now s _ h4⟩)
  | _=>exact h.elim
 | frl xs =>
  cases y with
  | int i =>
   cases ry
   obtain ⟨p,vs,rfl,h1,h2⟩:=rx
   obtain ⟨x,e,h⟩:=wY h
   obtain ⟨v,h3,h4⟩:=tR h2 e
   exact .inl ⟨p,vs,i,v,rfl,rfl,h1.sq,h3,h.now s _ h4⟩
  | _=>exact h.elim
 | str z =>
  cases y with
  | int i =>
   cases ry;cases rx
   obtain ⟨c,h⟩:=Out.ifp h
   obtain ⟨x,e,h⟩:=wY h
   cases hc:bI z.cps.toList i with
   | none=>rw [hc] at e;cases e
   | some k =>
    rw [hc] at e
    cases e
    exact .inr (.inr ⟨z,i,k,rfl,rfl,y4 c,hc,h.now s _ rfl⟩)
  | _=>exact h.elim
 | ref n =>
  cases y with
  | int i =>
   cases ry
   obtain ⟨p,rfl,hp⟩:=rx
   obtain ⟨xs,e1,h⟩:=jm h
   obtain ⟨vs,h1,h2⟩:=s.addr e1 hp
   obtain ⟨x,e,h⟩:=wY h
   obtain ⟨v,h3,h4⟩:=tR h2 e
   exact .inl ⟨p,vs,i,v,rfl,rfl,a4.of h1,h3,h.now s _ h4⟩
  | _=>exact h.elim
 | _=>exact h.elim⟩
end
mutual
def plain:PV->Bool
 | .non=>true
 | .bl _=>true
 | .int _=>true
 | .str _=>true
 | .tup xs=>bL xs
 | _=>false
def bL:List PV->Bool
 | []=>true
 | x::xs=>plain x&&bL xs
end
mutual
def dep:PV->Nat
 | .tup xs=>dB xs+1
 | _=>0
def dB:List PV->Nat
 | []=>0
 | x::xs=>max (dep x) (dB xs)
end
mutual
def bo:PV->PV->Bool
 | .non,.non=>true
 | .bl a,.bl b=>a==b
 | .bl a,.int b=>(if a then 1 else 0)==b
 | .int a,.bl b=>a==(if b then 1 else 0)
 | .int a,.int b=>a==b
 | .str a,.str b=>a==b
 | .tup xs,.tup ys=>dC xs ys
 | _,_=>false
def dC:List PV->List PV->Bool
 | [],[]=>true
 | x::xs,y::ys=>bo x y&&dC xs ys
 | _,_=>false
end
section
variable {X:Cx}{Er:XK}{K:Frag}{mg:Ab}{ρ:Ae}{pins:Ac}{σ:L2.St}{H:Hp}{s:Shared}
mutual
def BG (I:Inv X pins σ H s):∀(x y:PV) {v:V},plain x=true->plain y=true->R X.K mg ρ H x v->R X.K mg ρ H y v->bo x y=true
 | .non,y,v,_,py,rx,ry=>by
  cases rx
  cases y with
  | non=>rfl
  | tup ys=>obtain ⟨_,_,e,_⟩:=ry;cases e
  | bl _=>cases ry
  | int _=>cases ry
  | str _=>cases ry
  | _=>cases py
 | .bl a,y,v,_,py,rx,ry=>by
  cases rx
  cases y with
  | bl b=>cases ry;simp [bo]
  | tup ys=>obtain ⟨_,_,e,_⟩:=ry;cases e
  | non=>cases ry
  | int _=>cases ry
  | str _=>cases ry
  | _=>cases py
 | .int a,y,v,_,py,rx,ry=>by
  cases rx
  cases y with
  | int b=>cases ry;simp [bo]
  | tup ys=>obtain ⟨_,_,e,_⟩:=ry;cases e
  | non=>cases ry
  | bl _=>cases ry
  | str _=>cases ry
  | _=>cases py
 | .str a,y,v,_,py,rx,ry=>by
  cases rx
  cases y with
  | str b=>cases ry;simp [bo]
  | tup ys=>obtain ⟨_,_,e,_⟩:=ry;cases e
  | non=>cases ry
  | bl _=>cases ry
  | int _=>cases ry
  | _=>cases py
 | .tup xs,y,v,px,py,rx,ry=>by
  obtain ⟨a,vs,rfl,h1,h2⟩:=rx
  cases y with
  | tup ys =>
   obtain ⟨b,ws,e,h3,h4⟩:=ry
   cases e
   have:=I.tuple_inj h1 h3
   subst this
   exact ik I xs ys px py h2 h4
  | non=>cases ry
  | bl _=>cases ry
  | int _=>cases ry
  | str _=>cases ry
  | _=>cases py
 | .ty _,_,_,px,_,_,_=>by cases px
 | .frl _,_,_,px,_,_,_=>by cases px
 | .ref _,_,_,px,_,_,_=>by cases px
 | .fn _,_,_,px,_,_,_=>by cases px
 | .kd _ _,_,_,px,_,_,_=>by cases px
 | .exo _ _ _,_,_,px,_,_,_=>by cases px
def ik (I:Inv X pins σ H s):∀(xs ys:An) {vs:List V},bL xs=true->bL ys=true->Rs X.K mg ρ H xs vs->Rs X.K mg ρ H ys vs->dC xs ys=true
 | [],ys,vs,_,py,rx,ry=>by
  cases rx
  cases ys with
  | nil=>rfl
  | cons y ys=>obtain ⟨_,_,e,_⟩:=ry;cases e
 | x::xs,ys,vs,px,py,rx,ry=>by
  obtain ⟨v,r,rfl,h1,h2⟩:=rx
  cases ys with
  | nil=>cases ry
  | cons y ys =>
   obtain ⟨v',r',e,h3,h4⟩:=ry
   cases e
   simp only [bL,js] at px py
   simp only [dC,js]
   exact ⟨BG I x y px.1 py.1 h1 h3,ik I xs ys px.2 py.2 h2 h4⟩
end
def eF (xs ys:An) (j:Nat):Bool:=match xs[j]?,ys[j]? with
 | some x,some y=>bo x y
 | _,_=>true
def BH:∀(xs ys:An),((List.range (min xs.length ys.length)).all (eF xs ys)&&xs.length==ys.length)=dC xs ys
 | [],[]=>rfl
 | [],y::ys=>by simp [dC]
 | x::xs,[]=>by simp [dC]
 | x::xs,y::ys=>by
  have ih:=BH xs ys
  have e1:min (x::xs).length (y::ys).length=min xs.length ys.length+1:=by simp only [wF];omega
  have e2:((x::xs).length==(y::ys).length)=(xs.length==ys.length):=by
   rw [Bool.eq_iff_iff];simp
  rw [e1,e2,List.range_succ_eq_map,List.all_cons,List.all_map]
  have e3:(eF (x::xs) (y::ys)∘Nat.succ)=eF xs ys:=by
   funext j
   simp [eF]
  rw [e3,Bool.and_assoc,ih]
  simp [dC,eF]
def tU:∀{xs:An}{i:Nat}{x:PV},xs[i]?=some x->dep x<=dB xs
 | [],_,_,e=>by simp at e
 | y::xs,0,x,e=>by simp at e;subst e;simp only [dB];omega
 | y::xs,i+1,x,e=>by
  simp at e
  have:=tU e
  simp only [dB];omega
def qe:∀{xs:An}{i:Nat}{x:PV},bL xs=true->xs[i]?=some x->plain x=true
 | [],_,_,_,e=>by simp at e
 | y::xs,0,x,p,e=>by simp at e;subst e;simp only [bL,js] at p;exact p.1
 | y::xs,i+1,x,p,e=>by
  simp at e
  simp only [bL,js] at p
  exact qe p.2 e
def qf (A:Around):A.in1.units=A.units+1:=rfl
def tV (I:Inv X pins σ H s):∀(n:Nat) (x y:PV) {v w:V}{u u':Value}(A:Around),dep x<=n->plain x=true->plain y=true->R X.K mg ρ H x v->R X.K mg ρ H y w->RelV v u->RelV w u'->A.units+n<cLine ->
  SeqAt.EqAt A s u u' (bo x y)/\SeqAt.RcAt A s u u' (bo x y)/\SeqAt.RcNeAt A s u u' (!bo x y):=by
 intro n
 induction n with
 | zero =>
  intro x y v w u u' A hd px py rx ry rv rw hu
  cases x with
  | tup xs=>simp only [dep] at hd;omega
  | non =>
   cases rx;cases rv
   cases y with
   | non=>cases ry;cases rw;exact ⟨.same _,.none_none,.none_none⟩
   | bl b=>cases ry;cases rw;exact ⟨.none_bool b,.none_bool b,.none_bool b⟩
   | int b=>cases ry;obtain ⟨t,rfl⟩:=rw;exact ⟨.none_int b t,.none_int b t,.none_int b t⟩
   | str b=>cases ry;obtain ⟨t,rfl⟩:=rw;exact ⟨.none_str b t,.none_str b t,.none_str b t⟩
   | tup ys =>
    obtain ⟨p,ws,rfl,h1,h2⟩:=ry
    cases rw
    obtain ⟨its,_,pl,_⟩:=I.tuple h1
    exact ⟨.none_tuple pl (by omega),.none_tuple pl (by omega),.none_tuple pl (by omega)⟩
   | _=>cases py
  | bl a =>
   cases rx;cases rv
   cases y with
   | non=>cases ry;cases rw;exact ⟨.bool_none a,.bool_none a,.bool_none a⟩
   | bl b=>cases ry;cases rw;exact ⟨.bool_bool a b,.bool_bool a b,.bool_bool a b⟩
   | int b=>cases ry;obtain ⟨t,rfl⟩:=rw;exact ⟨.bool_int a b t,.bool_int a b t,.bool_int a b t⟩
   | str b=>cases ry;obtain ⟨t,rfl⟩:=rw;exact ⟨.bool_str a b t,.bool_str a b t,.bool_str a b t⟩
   | tup ys =>
    obtain ⟨p,ws,rfl,h1,h2⟩:=ry
    cases rw
    obtain ⟨its,_,pl,_⟩:=I.tuple h1
    exact ⟨.bool_tuple a pl (by omega),.bool_tuple a pl (by omega),.bool_tuple a pl (by omega)⟩
   | _=>cases py
  | int a =>
   cases rx;obtain ⟨t0,rfl⟩:=rv
   cases y with
   | non=>cases ry;cases rw;exact ⟨.int_none a t0,.int_none a t0,.int_none a t0⟩
   | bl b=>cases ry;cases rw;exact ⟨.int_bool a t0 b,.int_bool a t0 b,.int_bool a t0 b⟩
   | int b=>cases ry;obtain ⟨t,rfl⟩:=rw;exact ⟨.int_int a t0 b t,.int_int a t0 b t,.int_int a t0 b t⟩
   | str b=>cases ry;obtain ⟨t,rfl⟩:=rw;exact ⟨.int_str a t0 b t,.int_str a t0 b t,.int_str a t0 b t⟩
   | tup ys =>
    obtain ⟨p,ws,rfl,h1,h2⟩:=ry
    cases rw
    obtain ⟨its,_,pl,_⟩:=I.tuple h1
    exact ⟨.int_tuple a t0 pl (by omega),.int_tuple a t0 pl (by omega),.int_tuple a t0 pl (by omega)⟩
   | _=>cases py
  | str a =>
   cases rx;obtain ⟨t0,rfl⟩:=rv
   cases y with
   | non=>cases ry;cases rw;exact ⟨.str_none a t0,.str_none a t0,.str_none a t0⟩
   | bl b=>cases ry;cases rw;exact ⟨.str_bool a t0 b,.str_bool a t0 b,.str_bool a t0 b⟩
   | int b=>cases ry;obtain ⟨t,rfl⟩:=rw;exact ⟨.str_int a t0 b t,.str_int a t0 b t,.str_int a t0 b t⟩
   | str b=>cases ry;obtain ⟨t,rfl⟩:=rw;exact ⟨.str_str a t0 b t,.str_str a t0 b t,.str_str a t0 b t⟩
   | tup ys =>
    obtain ⟨p,ws,rfl,h1,h2⟩:=ry
    cases rw
    obtain ⟨its,_,pl,_⟩:=I.tuple h1
    exact ⟨.str_tuple a t0 pl (by omega),.str_tuple a t0 pl (by omega),.str_tuple a t0 pl (by omega)⟩
   | _=>cases py
  | _=>cases px
 | succ n ih =>
  intro x y v w u u' A hd px py rx ry rv rw hu
  cases x with
  | tup xs =>
   obtain ⟨a,vs,rfl,h1,h2⟩:=id rx
   cases rv
   obtain ⟨its,r1,p1,_⟩:=I.tuple h1
   cases y with
   | non=>cases ry;cases rw;exact ⟨.tuple_none p1 (by omega),.tuple_none p1 (by omega),.tuple_none p1 (by omega)⟩
   | bl b=>cases ry;cases rw;exact ⟨.tuple_bool b p1 (by omega),.tuple_bool b p1 (by omega),.tuple_bool b p1 (by omega)⟩
   | int b=>cases ry;obtain ⟨t,rfl⟩:=rw;exact ⟨.tuple_int b t p1 (by omega),.tuple_int b t p1 (by omega),.tuple_int b t p1 (by omega)⟩
   | str b=>cases ry;obtain ⟨t,rfl⟩:=rw;exact ⟨.tuple_str b t p1 (by omega),.tuple_str b t p1 (by omega),.tuple_str b t p1 (by omega)⟩
   | tup ys =>
    obtain ⟨b,ws,rfl,h3,h4⟩:=id ry
    cases rw
    obtain ⟨aU,r2,p2,_⟩:=I.tuple h3
    have l1:=h2.len
    have l2:=h4.len
    have l3:=r1.length
    have l4:=r2.length
    have item:∀j (g1:j<its.toArray.size) (g2:j<aU.toArray.size),SeqAt.EqAt A.in1 s its.toArray[j] aU.toArray[j] (eF xs ys j):=λj g1 g2=>by
     have k1:j<xs.length:=by rw [l1,l3];simpa using g1
     have k2:j<ys.length:=by rw [l2,l4];simpa using g2
     obtain ⟨v1,e1,tW⟩:=h2.get (yu k1)
     obtain ⟨v2,e2,tX⟩:=h4.get (yu k2)
     obtain ⟨u1,f1,tY⟩:=r1.get e1
     obtain ⟨u2,f2,tZ⟩:=r2.get e2
     have w1:its.toArray[j]=u1:=by
      obtain ⟨_,z⟩:=yr.mp f1
      simpa using z
     have w2:aU.toArray[j]=u2:=by
      obtain ⟨_,z⟩:=yr.mp f2
      simpa using z
     have ej:eF xs ys j=bo xs[j] ys[j]:=by
      unfold eF
      rw [yu k1,yu k2]
     rw [w1,w2,ej]
     have VG:=tU (yu k1)
     simp only [dep] at hd
     exact (ih xs[j] ys[j] A.in1 (by omega) (qe px (yu k1)) (qe py (yu k2)) tW tX tY tZ (by rw [qf];omega)).1
    have rM:((List.range (min its.toArray.size aU.toArray.size)).all (eF xs ys)&&its.toArray.size==aU.toArray.size)=bo (.tup xs) (.tup ys):=by
     have e:=BH xs ys
     rw [l1,l2,l3,l4] at e
     simpa [bo] using e
    have rc:SeqAt.RcAt A s (.ref a) (.ref b) (bo (.tup xs) (.tup ys)):=by
     rw [<-rM]
     exact SeqAt.RcAt.tuples (show s.heap.IsTuple a its.toArray from p1) (show s.heap.IsTuple b aU.toArray from p2) (by omega) item
    refine ⟨?_,rc,?_⟩
    ·by_cases dM:a=b
     ·subst dM
      rw [BG I (.tup xs) (.tup ys) px py rx ry]
      exact .same _
     ·exact .of_refs dM rc
    ·rw [<-rM]
     exact SeqAt.RcNeAt.tuples (show s.heap.IsTuple a its.toArray from p1) (show s.heap.IsTuple b aU.toArray from p2) (by omega) item
   | _=>cases py
  | non=>exact ih _ y A (jk _) px py rx ry rv rw (by omega)
  | bl a=>exact ih _ y A (jk _) px py rx ry rv rw (by omega)
  | int a=>exact ih _ y A (jk _) px py rx ry rv rw (by omega)
  | str a=>exact ih _ y A (jk _) px py rx ry rv rw (by omega)
  | _=>cases px
def yc:Am:=λx y st=>if plain x=true/\plain y=true/\dep x<=150 then .ok (.bl (bo x y)) st else .stuck
def ju:Am:=λx y st=>if plain x=true/\plain y=true/\dep x<=150 then .ok (.bl (!bo x y)) st else .stuck
def BI (K:Frag) (mg:Ab) (f:Bool->Bool):R2:=λv w H Q=>∃ρ x y,plain x=true/\plain y=true/\dep x<=150/\R K mg ρ H x v/\R K mg ρ H y w/\Q (.bl (f (bo x y))) H
def Lc (hu:X.A.units+200<cLine):bg X (compareOp .Eq) (BI X.K X.mg id):=by
 intro pins s σ H x y v u Q I rx ry h
 obtain ⟨ρ,a,b,pa,pb,hd,ra,rb,q⟩:=h
 exact PySem.EqBoolInt.of_rc (tV I 150 a b X.A hd pa pb ra rb rx ry (by omega)).2.1 ⟨.bl _,H,I,rfl,q⟩
def Ld (hu:X.A.units+200<cLine):bg X (compareOp .NotEq) (BI X.K X.mg not):=by
 intro pins s σ H x y v u Q I rx ry h
 obtain ⟨ρ,a,b,pa,pb,hd,ra,rb,q⟩:=h
 exact PySem.EqBoolInt.of_rcne (tV I 150 a b X.A hd pa pb ra rb rx ry (by omega)).2.2 ⟨.bl _,H,I,rfl,q⟩
def yF (hu:X.A.units+200<cLine):bC X .Eq yc:=⟨_,Lc hu,fun ρ H st x y v w Q E s rx ry h=>by
 obtain ⟨⟨p1,p2,p3⟩,h⟩:=Out.ifp h
 exact ⟨ρ,x,y,p1,p2,p3,rx,ry,h.now s _ rfl⟩⟩
def zbj (hu:X.A.units+200<cLine):bC X .NotEq ju:=⟨_,Ld hu,fun ρ H st x y v w Q E s rx ry h=>by
 obtain ⟨⟨p1,p2,p3⟩,h⟩:=Out.ifp h
 exact ⟨ρ,x,y,p1,p2,p3,rx,ry,h.now s _ rfl⟩⟩
end
section
variable {X:Cx}{Er:XK}{K:Frag}{mg:Ab}{a b c e:Expr}{es:List Expr}{pos:Pos}{fa fb fc:Ai}{fs:Ah}
def Le (K:Frag) (mg:Ab) (Er:XK) (f:zc->Mo (Option Int)):TO:=fun σ H Q=>∃env st ρ,a8 K mg ρ H env σ/\a0 K mg ρ H st/\Out K mg ρ H (f env st) (λ_ H' o _=>Q o H') Er
def MO (X:Cx) (Er:XK) (e:Option Expr) (f:zc->Mo (Option Int)):Prop:=PO X e (Le X.K X.mg Er f)
def eV:zc->Mo (Option Int):=λ_ st=>.ok none st
def t_:PV->Mo (Option Int)
 | .int i,st=>.ok (some i) st
 | _,_=>.stuck
def d5 (f:Ai):zc->Mo (Option Int):=λenv st=>(f env st).bind t_
def PO.weak {o:Option Expr}{t t':TO}(h:PO X o t) (w:∀σ H Q,t' σ H Q->t σ H Q):PO X o t':=λpins s σ H Q I q=>h pins s σ H Q I (w σ H Q q)
def zhr:MO X Er none eV:=PO.weak ID fun σ H Q ⟨env,st,ρ,re,rs,h⟩=>h.now rs
def zhs (h:ME X Er e fa):MO X Er (some e) (d5 fa):=PO.weak (IE h) fun σ H Q ⟨env,st,ρ,re,rs,h⟩=>⟨env,st,ρ,re,rs,h.then λag H1 x aa e1 s1 h1 v rv=>by
 cases x with
 | int i=>cases rv;exact ⟨i,rfl,Out.now (x:=some i) h1 s1⟩
 | _=>exact h1.elim⟩
def cI (xs:An) (lo hi:Option Int):An:=(xs.drop (HT.sIx xs.length 0 lo)).take (HT.sIx xs.length xs.length hi-HT.sIx xs.length 0 lo)
def nU:PV->Option Int->Option Int->Mo PV
 | .tup xs,lo,hi,st=>.ok (.tup (cI xs lo hi)) st
 | .frl xs,lo,hi,st=>.ok (.ref st.length) (st++[.lst (cI xs lo hi)])
 | .ref n,lo,hi,st=>yp st n λxs=>.ok (.ref st.length) (st++[.lst (cI xs lo hi)])
 | .str z,lo,hi,st=>if z.length<=lim then .ok (.str (Txt.slice z lo hi)) st else .stuck
 | _,_,_,_=>.stuck
def Rs.cut {ρ:Ae}{H:Hp}{xs:An}{vs:List V}(r:Rs K mg ρ H xs vs) (lo hi:Option Int):Rs K mg ρ H (cI xs lo hi) (e9 vs lo hi):=by
 unfold cI e9
 rw [r.len]
 exact (r.drop _).take _
def Lf (K:Frag):V->Option Int->Option Int->Hp->VK->Prop:=λx lo hi H Q=>∃a xs,x=.ref a/\ba K H a xs/\(HT.sIx xs.length 0 lo=0/\HT.sIx xs.length xs.length hi=xs.length)/\Q (.ref a) H
def Lg:gw X (Lf X.K):=by
 intro pins s σ H x v vl vu lo hi sl Q I rx hs pl pu h
 obtain ⟨a,xs,rfl,hx,hw,q⟩:=h
 cases rx
 obtain ⟨its,r,ht,hz⟩:=I.tuple hx
 have hlen:its.toArray.size=xs.length:=by rw [yR];exact r.length.symm
 refine ⟨"tuple", _,PyProof.Rows.slot_tuple_getitem.lookup,ht.typeIs,?_⟩
 exact HT.getItem_tuple_all ht hs pl pu (by rw [hlen];exact hw) ⟨.ref a,H,I,rfl,q⟩ (by rw [hlen];exact hz)
def kC (fa:Ai) (fl fu:zc->Mo (Option Int)):Ai:=λenv st=>(fa env st).bind λx aa=>(fl env aa).bind λl aK=>(fu env aK).bind λu aX=>nU x l u aX
def zht {lo hi:Option Expr}{fl fu:zc->Mo (Option Int)}{p2:Pos}(ha:ME X Er a fa) (hl:MO X Er lo fl) (hu:MO X Er hi fu):ME X Er (.Subscript a (.Slice lo hi none p2) pos) (kC fa fl fu) :=
 PE.weak (IG (II.or (Lg.or (Ja.or Jt))) ha hl hu) fun σ H Q ⟨env,st,ρ,re,rs,h⟩=>⟨env,st,ρ,re,rs,h.then λag H1 x aa e1 s1 h1 v rv=>⟨env,aa,ag,re.ext e1,s1,h1.then λao H2 l aK e2 s2 h2 =>
  ⟨env,aK,ao,(re.ext e1).ext e2,s2,h2.then λal H3 u aX e3 s3 h3=>by
  have rv:=R.ext e3 x (R.ext e2 x rv)
  cases x with
  | tup xs =>
   obtain ⟨p,vs,rfl,k1,k2⟩:=rv
   by_cases hw:HT.sIx vs.length 0 l=0/\HT.sIx vs.length vs.length u=vs.length
   ·refine .inr (.inl ⟨p,vs,rfl,k1,hw,Out.now (x:=PV.tup (cI xs l u)) h3 s3 _ ⟨p,vs,rfl,k1,?_⟩⟩)
    have:cI xs l u=xs:=by
     unfold cI
     rw [k2.len,hw.1,hw.2]
     simp [<-k2.len]
    rw [this];exact k2
   ·exact .inl ⟨p,vs,rfl,k1,hw,λq hq=>h3 al _ (Ext.new hq) (s3.new hq) _ (R.tup_of (k2.cut l u) hq)⟩
  | frl xs =>
   obtain ⟨p,vs,rfl,k1,k2⟩:=rv
   exact .inr (.inr (.inl ⟨p,vs,rfl,k1.sq,λq hq=>Out.newList (xs:=cI xs l u) h3 s3 (k2.cut l u) hq⟩))
  | ref n =>
   obtain ⟨p,rfl,hp⟩:=rv
   obtain ⟨xs,k0,h3⟩:=jm h3
   obtain ⟨vs,k1,k2⟩:=s3.addr k0 hp
   exact .inr (.inr (.inl ⟨p,vs,rfl,a4.of k1,λq hq=>Out.newList (xs:=cI xs l u) h3 s3 (k2.cut l u) hq⟩))
  | str z =>
   cases rv
   obtain ⟨k0,h3⟩:=Out.ifp h3
   exact .inr (.inr (.inr ⟨z,rfl,y4 k0,h3.now s3 _ rfl⟩))
  | _=>exact h3.elim⟩⟩⟩
def ua (K:Frag) (mg:Ab) (r:List V->Hp->VK->Prop) (op:Al):Prop:=∀ρ H st xs vs (Q:VK) (E:XK),a0 K mg ρ H st->Rs K mg ρ H xs vs->Out K mg ρ H (op xs st) (gV K mg Q) E->r vs H Q
def cg (X:Cx) (f:Value) (op:Al):Prop:=∃r,bz X f r/\ua X.K X.mg r op
def zt (op:Al) (fs:Ah):Ai:=λenv st=>(fs env st).bind op
def yI {x:Str} {id:String} {op:Al} {p:Pos} (h:cg X (.builtin id) op) (hm:X.mg x=none) (hv:bootBuiltins x=some (.builtin id)) (ha:MA X Er (e::es) fs) (hg:Gl X x:=by rfl) (hn:x ≠ "__name__" := by decide) (cf:(x==("__debug__" : Str))=false:=by decide)
  (he:starEach (e::es) X.env=(false,eval e X.env)::starEach es X.env:=by rfl) (bp:(backTo pos (starEach es X.env)).any (·.1)=false:=by rfl):ME X Er (.Call (.Name x p) (e::es) [] pos) (zt op fs):=by
 obtain ⟨r,h1,h2⟩:=h
 exact PE.weak (Ir h1 hg hm hv ha hn cf he bp) fun σ H Q ⟨env,st,ρ,re,rs,h⟩=>⟨env,st,ρ,re,rs,h.then λag H1 xs aa e1 s1 k vs rv=>h2 ag H1 aa xs vs Q Er s1 rv k⟩
def ja {x:Str} {T:String} {op:Al} {p:Pos} (h:cg X (.type T) op) (hm:X.mg x=none) (hv:bootBuiltins x=some (.type T)) (ha:MA X Er (e::es) fs) (hg:Gl X x:=by rfl) (hn:x ≠ "__name__" := by decide) (cf:(x==("__debug__" : Str))=false:=by decide)
  (he:starEach (e::es) X.env=(false,eval e X.env)::starEach es X.env:=by rfl) (bp:(backTo pos (starEach es X.env)).any (·.1)=false:=by rfl):ME X Er (.Call (.Name x p) (e::es) [] pos) (zt op fs):=by
 obtain ⟨r,h1,h2⟩:=h
 exact PE.weak (Iu h1 hg hm hv ha hn cf he bp) fun σ H Q ⟨env,st,ρ,re,rs,h⟩=>⟨env,st,ρ,re,rs,h.then λag H1 xs aa e1 s1 k vs rv=>h2 ag H1 aa xs vs Q Er s1 rv k⟩
def j3 {x:Str} {n:String} (hm:X.mg x=none) (hv:bootBuiltins x=some (.type n)) (hg:Gl X x:=by rfl) (hn:x ≠ "__name__" := by decide) (hd:(x==("__debug__" : Str))=false:=by decide):ME X Er (.Name x pos) (mC (.ty n)) :=
 lX (GB (v:=.ty n) hg hm hv rfl hn hd) λ_ _=>rfl
def Rs.one {ρ:Ae}{H:Hp}{x:PV}{vs:List V}(r:Rs K mg ρ H [x] vs):∃v,vs=[v]/\R K mg ρ H x v:=by
 obtain ⟨v,r',rfl,h,h'⟩:=r
 cases h'
 exact ⟨v,rfl,h⟩
def Rs.two {ρ:Ae}{H:Hp}{x y:PV}{vs:List V}(r:Rs K mg ρ H [x,y] vs):∃v w,vs=[v,w]/\R K mg ρ H x v/\R K mg ρ H y w:=by
 obtain ⟨v,r',rfl,h,h'⟩:=r
 obtain ⟨w,rfl,h2⟩:=Rs.one h'
 exact ⟨v,w,rfl,h,h2⟩
def nW:Al
 | [.tup xs],st=>.ok (.int xs.length) st
 | [.frl xs],st=>.ok (.int xs.length) st
 | [.str z],st=>if z.length<=lim then .ok (.int z.length) st else .stuck
 | [.ref n],st=>yp st n λxs=>.ok (.int xs.length) st
 | _,_=>.stuck
def Lh:cg X (.builtin "len") nW:=⟨_,HP,fun ρ H st xs vs Q E s r h=>by
 match xs,r,h with
 | [.tup ys],r,h =>
  obtain ⟨v,rfl,p,ws,rfl,h1,h2⟩:=Rs.one r
  exact ⟨_,ws.length,rfl,.inr ⟨ws,h1,rfl⟩,by rw [<-h2.len];exact Out.now (x:=PV.int ys.length) h s _ rfl⟩
 | [.frl ys],r,h =>
  obtain ⟨v,rfl,p,ws,rfl,h1,h2⟩:=Rs.one r
  exact ⟨_,ws.length,rfl,.inl ⟨ws,h1.sq,rfl⟩,by rw [<-h2.len];exact Out.now (x:=PV.int ys.length) h s _ rfl⟩
 | [.str z],r,h =>
  obtain ⟨v,rfl,rfl⟩:=Rs.one r
  obtain ⟨c,h⟩:=Out.ifp h
  exact ⟨_,z.length,rfl,⟨y4 c,rfl⟩,h.now s _ rfl⟩
 | [.ref n],r,h =>
  obtain ⟨v,rfl,p,rfl,hp⟩:=Rs.one r
  obtain ⟨ys,e,h⟩:=jm h
  obtain ⟨ws,h1,h2⟩:=s.addr e hp
  exact ⟨_,ws.length,rfl,.inl ⟨ws,a4.of h1,rfl⟩,by rw [<-h2.len];exact h.now s _ rfl⟩
 | [],r,h=>exact h.elim
 | [.non],r,h=>exact h.elim
 | [.bl _],r,h=>exact h.elim
 | [.int _],r,h=>exact h.elim
 | [.ty _],r,h=>exact h.elim
 | [.fn _],r,h=>exact h.elim
 | [.kd _ _],r,h=>exact h.elim
 | [.exo _ _ _],r,h=>exact h.elim
 | x::y::r',r,h=>cases x<;>exact h.elim⟩
def nX:Al
 | [.int i],st=>.ok (.int i) st
 | [.bl k],st=>.ok (.int (if k then 1 else 0)) st
 | _,_=>.stuck
def BJ:cg X (.type "int") nX:=⟨_,HM,fun ρ H st xs vs Q E s r h=>by
 match xs,r,h with
 | [.int i],r,h =>
  obtain ⟨v,rfl,rfl⟩:=Rs.one r
  exact .inl ⟨i,rfl,Out.now (x:=PV.int i) h s _ rfl⟩
 | [.bl k],r,h =>
  obtain ⟨v,rfl,rfl⟩:=Rs.one r
  exact .inr ⟨k,rfl,Out.now (x:=PV.int (if k then 1 else 0)) h s _ rfl⟩
 | [],r,h=>exact h.elim
 | [.non],r,h=>exact h.elim
 | [.str _],r,h=>exact h.elim
 | [.tup _],r,h=>exact h.elim
 | [.frl _],r,h=>exact h.elim
 | [.ref _],r,h=>exact h.elim
 | [.ty _],r,h=>exact h.elim
 | [.fn _],r,h=>exact h.elim
 | [.kd _ _],r,h=>exact h.elim
 | [.exo _ _ _],r,h=>exact h.elim
 | x::y::r',r,h=>cases x<;>exact h.elim⟩
def qg:Al
 | [.tup xs],st=>.ok (.ref st.length) (st++[.lst xs])
 | [.frl xs],st=>.ok (.ref st.length) (st++[.lst xs])
 | [.ref n],st=>yp st n λxs=>.ok (.ref st.length) (st++[.lst xs])
 | _,_=>.stuck
def Li:cg X (.type "list") qg:=⟨_,Jb,fun ρ H st xs vs Q E s r h=>by
 match xs,r,h with
 | [.tup ys],r,h =>
  obtain ⟨v,rfl,p,ws,rfl,h1,h2⟩:=Rs.one r
  exact ⟨p,ws,rfl,.inr h1,λl hl=>Out.newList (xs:=ys) h s h2 hl⟩
 | [.frl ys],r,h =>
  obtain ⟨v,rfl,p,ws,rfl,h1,h2⟩:=Rs.one r
  exact ⟨p,ws,rfl,.inl h1.sq,λl hl=>Out.newList (xs:=ys) h s h2 hl⟩
 | [.ref n],r,h =>
  obtain ⟨v,rfl,p,rfl,hp⟩:=Rs.one r
  obtain ⟨ys,e,h⟩:=jm h
  obtain ⟨ws,h1,h2⟩:=s.addr e hp
  exact ⟨p,ws,rfl,.inl (a4.of h1),λl hl=>Out.newList (xs:=ys) h s h2 hl⟩
 | [],r,h=>exact h.elim
 | [.non],r,h=>exact h.elim
 | [.bl _],r,h=>exact h.elim
 | [.int _],r,h=>exact h.elim
 | [.str _],r,h=>exact h.elim
 | [.ty _],r,h=>exact h.elim
 | [.fn _],r,h=>exact h.elim
 | [.kd _ _],r,h=>exact h.elim
 | [.exo _ _ _],r,h=>exact h.elim
 | x::y::r',r,h=>cases x<;>exact h.elim⟩
def jp:Al
 | [.tup xs],st=>.ok (.tup xs) st
 | [.frl xs],st=>.ok (.tup xs) st
 | [.ref n],st=>yp st n λxs=>.ok (.tup xs) st
 | _,_=>.stuck
def j5:cg X (.type "tuple") jp:=⟨_,Jc,fun ρ H st xs vs Q E s r h=>by
 match xs,r,h with
 | [.tup ys],r,h =>
  obtain ⟨v,rfl,p,ws,rfl,h1,h2⟩:=Rs.one r
  exact ⟨p,ws,rfl,.inr ⟨h1,Out.now (x:=PV.tup ys) h s _ ⟨p,ws,rfl,h1,h2⟩⟩⟩
 | [.frl ys],r,h =>
  obtain ⟨v,rfl,p,ws,rfl,h1,h2⟩:=Rs.one r
  exact ⟨p,ws,rfl,.inl ⟨h1.sq,λl hl=>h ρ _ (Ext.new hl) (s.new hl) _ (R.tup_of h2 hl)⟩⟩
 | [.ref n],r,h =>
  obtain ⟨v,rfl,p,rfl,hp⟩:=Rs.one r
  obtain ⟨ys,e,h⟩:=jm h
  obtain ⟨ws,h1,h2⟩:=s.addr e hp
  exact ⟨p,ws,rfl,.inl ⟨a4.of h1,λl hl=>h ρ _ (Ext.new hl) (s.new hl) _ (R.tup_of h2 hl)⟩⟩
 | [],r,h=>exact h.elim
 | [.non],r,h=>exact h.elim
 | [.bl _],r,h=>exact h.elim
 | [.int _],r,h=>exact h.elim
 | [.str _],r,h=>exact h.elim
 | [.ty _],r,h=>exact h.elim
 | [.fn _],r,h=>exact h.elim
 | [.kd _ _],r,h=>exact h.elim
 | [.exo _ _ _],r,h=>exact h.elim
 | x::y::r',r,h=>cases x<;>exact h.elim⟩
def f_ (T n:String):Option Bool :=
 if T = "int" then (if n = "int" then some true else if n = "bool" \/ n = "str" \/ n = "tuple" \/ n = "dict" \/ n = "list" then some false else none)
 else if T = "bool" then (if n = "int" \/ n = "bool" then some true else if n = "str" \/ n = "tuple" \/ n = "dict" \/ n = "list" then some false else none)
 else if T = "str" then (if n = "str" then some true else if n = "int" \/ n = "bool" \/ n = "tuple" \/ n = "dict" \/ n = "list" then some false else none)
 else if T = "tuple" then (if n = "tuple" then some true else if n = "int" \/ n = "bool" \/ n = "str" \/ n = "dict" \/ n = "list" then some false else none)
 else if T = "list" then (if n = "list" then some true else if n = "int" \/ n = "bool" \/ n = "str" \/ n = "dict" \/ n = "tuple" then some false else none)
 else if T = "dict" then (if n = "dict" then some true else if n = "int" \/ n = "bool" \/ n = "str" \/ n = "list" \/ n = "tuple" then some false else none)
 else if T = "NoneType" then (if n = "int" \/ n = "bool" \/ n = "str" \/ n = "list" \/ n = "tuple" \/ n = "dict" then some false else none)
 else none
def Lj (K:Frag) {T n:String}{b:Bool}(h:f_ T n=some b):PySem.W.kitOne K (.type T) (.type n)=some b:=by
 unfold f_ at h
 split at h
 ·rename_i e;subst e
  split at h
  ·rename_i e;subst e;cases h;first|rfl|kernel_rfl
  ·split at h
   ·rename_i e;cases h;rcases e with e|e|e|e|e<;>subst e<;>first|rfl|kernel_rfl
   ·cases h
 ·split at h
  ·rename_i e;subst e
   split at h
   ·rename_i e;cases h;rcases e with e|e<;>subst e<;>first|rfl|kernel_rfl
   ·split at h
    ·rename_i e;cases h;rcases e with e|e|e|e<;>subst e<;>first|rfl|kernel_rfl
    ·cases h
  ·split at h
   ·rename_i e;subst e
    split at h
    ·rename_i e;subst e;cases h;first|rfl|kernel_rfl
    ·split at h
     ·rename_i e;cases h;rcases e with e|e|e|e|e<;>subst e<;>first|rfl|kernel_rfl
     ·cases h
   ·split at h
    ·rename_i e;subst e
     split at h
     ·rename_i e;subst e;cases h;first|rfl|kernel_rfl
     ·split at h
      ·rename_i e;cases h;rcases e with e|e|e|e|e<;>subst e<;>first|rfl|kernel_rfl
      ·cases h
    ·split at h
     ·rename_i e;subst e
      split at h
      ·rename_i e;subst e;cases h;first|rfl|kernel_rfl
      ·split at h
       ·rename_i e;cases h;rcases e with e|e|e|e|e<;>subst e<;>first|rfl|kernel_rfl
       ·cases h
     ·split at h
      ·rename_i e;subst e
       split at h
       ·rename_i e;subst e;cases h;first|rfl|kernel_rfl
       ·split at h
        ·rename_i e;cases h;rcases e with e|e|e|e|e<;>subst e<;>first|rfl|kernel_rfl
        ·cases h
      ·split at h
       ·rename_i e;subst e
        split at h
        ·rename_i e;cases h;rcases e with e|e|e|e|e|e<;>subst e<;>first|rfl|kernel_rfl
        ·cases h
       ·cases h
end
def gd (K:Frag) (mg:Ab) (m:Al):Sp:=λvs H Q E=>∃xs st ρ,Rs K mg ρ H xs vs/\a0 K mg ρ H st/\Out K mg ρ H (m xs st) (gV K mg Q) E
section
variable (P:Program) (w:World) (K:Frag) (mg:Ab) (base:Heap)
def a5 (x:Str) (k:Nat) (m:Al):Prop:=∃f fd ps,mg x=some (.ref f)/\keepIn K (.ref f)=true/\Binds K fd ps []/\a_ P w K mg base (bV P w) k f fd ps (gd K mg m)
def dm (c name:Str) (k:Nat) (m:Al):Prop:=∃C f fd ps,mg c=some (.ref C)/\dY K C/\Meth K C name f/\Binds K fd ps []/\a_ P w K mg base (bV P w) k f fd ps (gd K mg m)
def nY (c:Str) (k:Nat) (m:Al):Prop:=∃C f fd ps,mg c=some (.ref C)/\Mk K C f/\Binds K fd ps []/\a_ P w K mg base (bV P w) k f fd ps (gd K mg m)
def uc (c fld:Str):Prop:=∃C f fd,mg c=some (.ref C)/\eD K C f/\a_ P w K mg base (bV P w) 1 f fd ["self", fld] (Bm C fld)/\Binds K fd ["self", fld] []
end
section
variable {X:Cx}{Er:XK}{K:Frag}{mg:Ab}{a b c e o:Expr}{es:List Expr}{pos p apos:Pos}{fa fb fc fo:Ai}{fs:Ah}{k:Nat}{x:Str}{m:Al}
def zZ (C:a5 X.prog X.w X.K X.mg X.base x k m) (hr:aY k X.A) (ht:j2 X Er) (ha:MA X Er (e::es) fs) (hg:Gl X x:=by rfl) (cf:(x==("__debug__" : Str))=false:=by decide)
  (he:starEach (e::es) X.env=(false,eval e X.env)::starEach es X.env:=by rfl) (bp:(backTo pos (starEach es X.env)).any (·.1)=false:=by rfl):ME X Er (.Call (.Name x p) (e::es) [] pos) (zt m fs):=by
 obtain ⟨f,fd,ps,hm,hk,hb,F⟩:=C
 exact PE.weak (Im F hr hg hm hk hb .nil (nG ht) ha cf he bp) fun σ H Q ⟨env,st,ρ,re,rs,h⟩=>⟨env,st,ρ,re,rs,h.then λag H1 xs aa e1 s1 k vs rv=>by
  show gd X.K X.mg m (vs++[]) H1 Q Er
  rw [List.append_nil]
  exact ⟨xs,aa,ag,rv,s1,k⟩⟩
def ud (tab:Str->Option (Al)) (ff:Ai) (fs:Ah):Ai:=λenv st=>(ff env st).bind λf aa=>match f with
 | .fn x=>match tab x with
  | some m=>(fs env aa).bind m
  | none=>.stuck
 | _=>.stuck
def Lk {tab:Str->Option (Al)}{ff:Ai}(ht:∀y m,tab y=some m->a5 X.prog X.w X.K X.mg X.base y k m) (hf:ME X Er (.Name x p) ff) (hr:aY k X.A) (hT:j2 X Er) (ha:MA X Er (e::es) fs)
  (he:starEach (e::es) X.env=(false,eval e X.env)::starEach es X.env:=by rfl) (bp:(backTo pos (starEach es X.env)).any (·.1)=false:=by rfl):ME X Er (.Call (.Name x p) (e::es) [] pos) (ud tab ff fs) :=
 PE.weak (Kf (CX:=bV X.prog X.w) hf hr (nG hT) ha he bp) fun σ H Q ⟨env,st,ρ,re,rs,h⟩=>⟨env,st,ρ,re,rs,h.then λag H1 f aa e1 s1 h1 v rv=>by
  cases f with
  | fn y =>
   cases hy:tab y with
   | none=>simp only [hy] at h1;exact h1.elim
   | some m =>
    simp only [hy] at h1
    obtain ⟨f,rfl,hm⟩:=rv
    obtain ⟨f',fd,ps,hm',hk,hb,F⟩:=ht y m hy
    rw [hm] at hm'
    cases hm'
    exact ⟨f,_,rfl,⟨fd,ps,F,hk,hb⟩,env,aa,ag,re.ext e1,s1,Out.then h1 λao H2 xs aK e2 s2 h2 vs nO=>⟨xs,aK,ao,nO,s2,h2⟩⟩
  | _=>exact h1.elim⟩
def iq {ρ:Ae}{H:Hp}{f:Str}:∀{ks:Ad}{xs:An}{vs:List V}{x:PV},Rs K mg ρ H xs vs->(ks.zip xs).lookup f=some x->∃v,(ks.zip vs).lookup f=some v/\R K mg ρ H x v
 | [],_,_,_,_,h=>by simp at h
 | k::ks,[],_,_,_,h=>by simp at h
 | k::ks,y::xs,_,x,r,h=>by
  obtain ⟨v,r',rfl,h1,h2⟩:=r
  simp only [List.zip_cons_cons,yE] at h ⊢
  split at h
  ·cases h;exact ⟨v,rfl,h1⟩
  ·exact iq h2 h
def nZ {f:Str}{β:Type}:∀{ks:Ad}{vs:List β},f∉ks->(ks.zip vs).lookup f=none
 | [],_,_=>by simp
 | k::ks,[],_=>by simp
 | k::ks,v::vs,h=>by
  simp only [yL,not_or] at h
  simp only [List.zip_cons_cons,yE]
  have:(f==k)=false:=by simpa using h.1
  rw [this]
  exact nZ h.2
def Ll (X:Cx) (name:Str) (k:Nat) (E:XK) (ta:TE) (t:TA):TE:=fun σ H Q=>ta σ H λx H1=>∃a C dx fs f fd ps sp,x=.ref a/\H1 a=some (.ins C dx fs)/\fs.lookup name=none/\dY X.K C/\Meth X.K C name f/\Binds X.K fd ps []/\a_ X.prog X.w X.K X.mg X.base (bV X.prog X.w) k f fd ps sp /\
 t σ H1 λvs H2=>sp (x::vs) H2 Q E
def Lm {pl:Sem Bool}{name:Str}{ta:TE}{t:TA}{E:XK}(he:PE X o ta) (hr:aY k X.A) (hx:Passes (bV X.prog X.w) X E) (ha:PA X (e::es) t)
  (a9:starEach (e::es) X.env=(false,eval e X.env)::starEach es X.env:=by rfl) (bp:(backTo pos (starEach es X.env)).any (·.1)=false:=by rfl)
  (ht:eval (.Call (.Attribute o name apos) (e::es) [] pos) X.env=(do
   let ov <-eval o X.env
   standAt apos.atName
   let (f,first) <-holding [ov] (getMethod ov name pl)
   callWith pos f first (backTo pos (starEach (e::es) X.env)) (backToKw pos (keywordEach [] X.env))):=by rfl) :
  PE X (.Call (.Attribute o name apos) (e::es) [] pos) (Ll X name k E ta t):=by
 intro pins s σ H Q I h
 refine PySem.W.methodCall_KW (pl:=pl) (aS (he pins s σ H _ I h) λu s1 ⟨x,H1,I1,rx,a,C,dx,fs,f,fd,ps,sp,ex,ea,l,c,hm,hb,F,q⟩=>?_) ht
 subst ex
 obtain rfl:u=Value.ref a:=rx
 refine xI I1 ea c hm l ?_
 refine PySem.W.callWith_K (first:=[.ref a]) (h₀:=X.base) I.ok.mod.kin hm.kp (aS (ha pos pins s1 σ H1 _ I1 q) λus s2 ⟨vs,H2,I2,r,q2⟩=>⟨I2.kIn,?_⟩) a9 bp
 exact si (us:=.ref a::us) (vs:=.ref a::vs) F hr hb .nil hx I2 (.cons rfl r) (by rw [List.append_nil];exact q2)
def gI (name:Str) (tab:Str->Option (Al)) (o:PV) (st:ae) (k:Nat->(Al)->Res PV):Res PV:=match o with
 | .ref n=>yS st n λc ks _=>if name∈ks then .stuck else match tab c with
  | some m=>k n m
  | none=>.stuck
 | _=>.stuck
def wt (name:Str) (tab:Str->Option (Al)) (fo:Ai) (fs:Ah):Ai:=λenv st=>(fo env st).bind λo aa=>gI name tab o aa λn m=>(fs env aa).bind λys aK=>m (.ref n::ys) aK
def BK {name:Str}{tab:Str->Option (Al)}{o:PV}{st:ae}{kk:Nat->(Al)->Res PV}{ρ:Ae}{H:Hp}{good}(h:Out K mg ρ H (gI name tab o st kk) good Er) :
  ∃n c ks xs m,o=.ref n/\st[n]?=some (.ins c ks xs)/\name∉ks/\tab c=some m/\Out K mg ρ H (kk n m) good Er:=by
 cases o with
 | ref n =>
  obtain ⟨c,ks,xs,e,h⟩:=Bz h
  split at h
  ·exact h.elim
  ·rename_i hn
   cases hc:tab c with
   | none=>rw [hc] at h;exact h.elim
   | some m=>rw [hc] at h;exact ⟨n,c,ks,xs,m,rfl,e,hn,hc,h⟩
 | _=>exact h.elim
def Ln {pl:Sem Bool}{name:Str}{tab:Str->Option (Al)}(hT:∀c m,tab c=some m->dm X.prog X.w X.K X.mg X.base c name k m) (ho:ME X Er o fo) (hr:aY k X.A) (ht:j2 X Er) (ha:MA X Er (e::es) fs)
  (a9:starEach (e::es) X.env=(false,eval e X.env)::starEach es X.env:=by rfl) (bp:(backTo pos (starEach es X.env)).any (·.1)=false:=by rfl)
  (ue:eval (.Call (.Attribute o name apos) (e::es) [] pos) X.env=(do
   let ov <-eval o X.env
   standAt apos.atName
   let (f,first) <-holding [ov] (getMethod ov name pl)
   callWith pos f first (backTo pos (starEach (e::es) X.env)) (backToKw pos (keywordEach [] X.env))):=by rfl) :
  ME X Er (.Call (.Attribute o name apos) (e::es) [] pos) (wt name tab fo fs) :=
 PE.weak (Lm (pl:=pl) ho hr (nG ht) ha a9 bp ue) fun σ H Q ⟨env,st,ρ,re,rs,h⟩=>⟨env,st,ρ,re,rs,h.then λag H1 x aa e1 s1 h1 v rv=>by
  obtain ⟨n,c,ks,xs,m,rfl,hn,hk,hc,h1⟩:=BK h1
  obtain ⟨C,f,fd,ps,hC,cl,hm,hb,F⟩:=hT c m hc
  obtain ⟨p,rfl,hp⟩:=rv
  obtain ⟨C',dx,vs,hC',hH,hR,hl⟩:=s1.addr hn hp
  rw [hC] at hC'
  cases hC'
  exact ⟨p,C,dx,_,f,fd,ps,_,rfl,hH,nZ hk,cl,hm,hb,F,env,aa,ag,re.ext e1,s1,Out.then h1 λao H2 ys aK e2 s2 h2 ws rws=>⟨.ref n::ys,aK,ao,⟨_,_,rfl,⟨p,rfl,e2.get hp⟩,rws⟩,s2,h2⟩⟩⟩
def cJ (c:Str) (m:Al) (ys:An):Mo PV:=λst=>(m (.ref st.length::ys) (st++[.ins c [] []])).bind λr aK=>if cH r=true then .ok (.ref st.length) aK else .stuck
def Lo {x:PV}(h:cH x=true):x=.non:=by cases x<;>first|rfl|cases h
def Lp {cn:Str}{C f:Addr}{ρ:Ae}{H:Hp}{st:ae}{ys:An}{vs:List V}{Q:VK}(hC:mg cn=some (.ref C)) (s:a0 K mg ρ H st) (r:Rs K mg ρ H ys vs) (h:Out K mg ρ H (cJ cn m ys st) (gV K mg Q) Er) :
  ∀x dx,H x=none->H dx=none->dx≠x->gd K mg m (.ref x::vs) (upd (upd H dx (.own x)) x (.ins C dx [])) (λv H2=>v=.non/\Q (.ref x) H2) Er:=λx dx hx qh ne=>by
 have lZ:upd H dx (.own x) x=none:=by rw [zM (yw ne)];exact hx
 have s1:=s.new (o:=.own x) qh
 have e1:Ext ρ H ρ (upd H dx (.own x)):=Ext.new qh
 have e2:Ext ρ H (ρ++[x]) (upd (upd H dx (.own x)) x (.ins C dx [])):=e1.trans (Ext.push lZ)
 have s2:a0 K mg (ρ++[x]) (upd (upd H dx (.own x)) x (.ins C dx [])) (st++[.ins cn [] []]):=s1.push lZ ⟨C,dx,[],hC,yC,rfl,rfl⟩
 have gx:(ρ++[x])[st.length]?=some x:=by rw [<-s.len];simp
 refine ⟨.ref st.length::ys,_,ρ++[x],⟨_,_,rfl,⟨x,rfl,gx⟩,Rs.ext e2 ys r⟩,s2,Out.then (Out.ext h e2) λal H3 r3 aX e3 s3 h3 v rv=>?_⟩
 obtain ⟨hn,h3⟩:=Out.ifp h3
 obtain rfl:=Lo hn
 exact ⟨rv,h3.now s3 _ ⟨x,rfl,e3.get gx⟩⟩
def Lq {cn:Str} (C:nY X.prog X.w X.K X.mg X.base cn k m) (hr:aY (k+1) X.A) (ht:j2 X Er) (ha:MA X Er (e::es) fs) (hg:Gl X cn:=by rfl) (cf:(cn==("__debug__" : Str))=false:=by decide)
  (he:starEach (e::es) X.env=(false,eval e X.env)::starEach es X.env:=by rfl) (bp:(backTo pos (starEach es X.env)).any (·.1)=false:=by rfl):ME X Er (.Call (.Name cn p) (e::es) [] pos) (zt (cJ cn m) fs):=by
 obtain ⟨C,f,fd,ps,hm,M,hb,F⟩:=C
 exact PE.weak (Ip M F hr hg hm hb .nil (nG ht) ha cf he bp) fun σ H Q ⟨env,st,ρ,re,rs,h⟩=>⟨env,st,ρ,re,rs,h.then λag H1 xs aa e1 s1 k vs rv x dx hx qh ne=>by
  rw [List.append_nil]
  exact Lp (f:=f) hm s1 rv k x dx hx qh ne⟩
def bj (f:Str) (ins exc:Str->Bool):PV->Mo PV
 | .ref n,st=>yS st n λc ks xs=>if ins c=true then bA ((ks.zip xs).lookup f) st else .stuck
 | .exo c ks xs,st=>if exc c=true then bA ((ks.zip xs).lookup f) st else .stuck
 | _,_=>.stuck
structure FldF (K:Frag) (mg:Ab) (f:Str) (ins exc:Str->Bool):Prop where
 i:∀c,ins c=true->∃C,mg c=some (.ref C)/\dY K C/\cN K C f
 x:∀c,exc c=true->∃C,mg c=some (.ref C)/\fM K C/\hasDictIn K C=true/\findIn K (.ref C) f=some none
def Ls (K:Frag) (ta:TE) (f:Str):TE:=fun σ H Q=>ta σ H λx H1=>(∃a C dx fs v,x=.ref a/\H1 a=some (.ins C dx fs)/\dY K C/\cN K C f/\fs.lookup f=some v/\Q v H1) \/
 ∃a C d fs v,x=.ref a/\H1 a=some (fL C (some d) a)/\H1 d=some (.xd fs)/\fM K C/\hasDictIn K C=true/\findIn K (.ref C) f=some none/\fs.lookup f=some v/\Q v H1
def Lu {f:Str}{ta:TE}(he:PE X e ta) (hb:attributeBase e f X.env (eval e X.env)=eval e X.env):PE X (.Attribute e f pos) (Ls X.K ta f):=by
 intro pins s σ H Q I h
 refine HZ hb (aS (he pins s σ H _ I h) λu s1 ⟨x,H1,I1,rx,h1⟩=>?_)
 rcases h1 with ⟨a,C,dx,fs,v,ex,ea,c,n,l,q⟩|⟨a,C,dx,fs,v,ex,ea,ed,g,hh,no,l,q⟩
 ·subst ex
  obtain rfl:u=Value.ref a:=rx
  exact HX I1 ea c n l λu' s2 I2 ru=>⟨v,H1,I2,ru,q⟩
 ·subst ex
  obtain rfl:u=Value.ref a:=rx
  exact Ko I1 ea ed g hh no l λu' s2 I2 ru=>⟨v,H1,I2,ru,q⟩
def wK {f:Str}{ins exc:Str->Bool}(F:FldF X.K X.mg f ins exc) (he:ME X Er e fa) (hb:attributeBase e f X.env (eval e X.env)=eval e X.env:=by rfl):ME X Er (.Attribute e f pos) (yz (bj f ins exc) fa) :=
 PE.weak (Lu he hb) fun σ H Q ⟨env,st,ρ,re,rs,h⟩=>⟨env,st,ρ,re,rs,h.then λag H1 x aa e1 s1 h1 v rv=>by
  cases x with
  | ref n =>
   obtain ⟨c,ks,xs,hn,h1⟩:=Bz h1
   obtain ⟨hc,h1⟩:=Out.ifp h1
   obtain ⟨y,hy,h1⟩:=wY h1
   obtain ⟨p,rfl,hp⟩:=rv
   obtain ⟨C',dx,vs,hC',hH,hR,hl⟩:=s1.addr hn hp
   obtain ⟨C,hC,cl,na⟩:=F.i c hc
   rw [hC] at hC'
   cases hC'
   obtain ⟨v,hv,rv⟩:=iq hR hy
   exact .inl ⟨p,_,dx,_,v,rfl,hH,cl,na,hv,h1.now s1 _ rv⟩
  | exo c ks xs =>
   obtain ⟨hc,h1⟩:=Out.ifp h1
   obtain ⟨y,hy,h1⟩:=wY h1
   obtain ⟨a,C',d,vs,rfl,hC',hH,hd,hR,hl⟩:=rv
   obtain ⟨C,hC,g,hh,no⟩:=F.x c hc
   rw [hC] at hC'
   cases hC'
   obtain ⟨v,hv,rv⟩:=iq hR hy
   exact .inr ⟨a,_,d,_,v,rfl,hH,hd,g,hh,no,hv,h1.now s1 _ rv⟩
  | _=>exact h1.elim⟩
def kD:Option SO->Option (String ⊕ (Bool×Str))
 | some (.lst _)=>some (.inl "list")
 | some (.dic _ _)=>some (.inl "dict")
 | some (.ins c _ _)=>some (.inr (false,c))
 | some (.fdi _ _)=>none
 | some (.dit _ _)=>none
 | none=>none
def iu (st:ae):PV->Option (String ⊕ (Bool×Str))
 | .non=>some (.inl "NoneType")
 | .bl _=>some (.inl "bool")
 | .int _=>some (.inl "int")
 | .str _=>some (.inl "str")
 | .tup _=>some (.inl "tuple")
 | .ref n=>kD st[n]?
 | .exo c _ _=>some (.inr (true,c))
 | _=>none
def eI (o:Option Bool):Mo PV:=λst=>match o with
 | some b=>.ok (.bl b) st
 | none=>.stuck
def qi {ρ:Ae}{H:Hp}{o:Option Bool}{st:ae}{good}(h:Out K mg ρ H (eI o st) good Er):∃b,o=some b/\Out K mg ρ H (.ok (.bl b) st) good Er:=by
 cases o with
 | some x=>exact ⟨x,rfl,h⟩
 | none=>exact h.elim
structure IsT where
 isx:Str->Bool
 sub:Str->Str->Option Bool
 subT:Str->String->Option Bool
 tyC:String->Str->Option Bool
def rN (t:IsT) (st:ae):PV->Option (String ⊕ (Bool×Str))->Mo PV
 | .ty n,some (.inl T),st=>eI (f_ T n) st
 | .ty n,some (.inr (f,c)),st=>if t.isx c=f then eI (t.subT c n) st else .stuck
 | .fn B,some (.inl T),st=>eI (t.tyC T B) st
 | .fn B,some (.inr (f,c)),st=>if t.isx c=f then eI (t.sub c B) st else .stuck
 | _,_,_=>.stuck
def y7 (t:IsT):Al
 | [x,y],st=>rN t st y (iu st x) st
 | _,_=>.stuck
structure rO (K:Frag) (C:Addr):Prop where
 cl:dY K C
 ha:findIn K (.ref C) "__class__" = some (some (.builtin "object.__class__"))
 hn:specialIn K (.builtin "object.__class__") "__get__" = some (some (.builtin "getset_descriptor.__get__"))
 tk:takesIn K (.builtin "object.__class__")=some true
 hm:mroIn K C (.type "object")=some true
structure IsF (K:Frag) (mg:Ab) (t:IsT):Prop where
 s:∀c B b,t.sub c B=some b->∃C D,mg c=some (.ref C)/\mg B=some (.ref D)/\kitOne K (.ref C) (.ref D)=some b
 tt:∀c n b,t.subT c n=some b->∃C,mg c=some (.ref C)/\kitOne K (.ref C) (.type n)=some b
 u:∀T B b,t.tyC T B=some b->∃D,mg B=some (.ref D)/\kitOne K (.type T) (.ref D)=some b
 x:∀c C,t.isx c=true->mg c=some (.ref C)->((∃B b,t.sub c B=some b)\/∃n b,t.subT c n=some b)->lh K C
 i:∀c C,t.isx c=false->mg c=some (.ref C)->((∃B b,t.sub c B=some b)\/∃n b,t.subT c n=some b)->rO K C
inductive kE (K:Frag) (H:Hp):V->Value->Prop where
 | of {v:V} {t:Value} (h:cW K H v t):kE K H v t
 | tup {a:Addr} {vs:List V} (h:ba K H a vs):kE K H (.ref a) (.type "tuple")
 | exc {a C d:Addr} {fs:List (Str×V)} (ha:H a=some (fL C (some d) a)) (hd:H d=some (.xd fs)) (k:lh K C):kE K H (.ref a) (.ref C)
def Lv {pins:Ac}{σ:L2.St}{H:Hp}{s:Shared}{v:V}{u t c:Value}{b:Bool}{Q:Aa}{A:Around}{E:Aa}(I:Inv X pins σ H s) (r:RelV v u) (ty:kE X.K H v t) (e:kitOne X.K t c=some b) (h:∀tk,Q (.bool b) { s with toks:=tk }) :
  wpAny (model X.prog X.w) A (call (.builtin "isinstance") [u,c]) Q E s:=by
 cases ty with
 | of ty=>exact H9 I r ty e h
 | @tup a vs hq =>
  obtain rfl:u=Value.ref a:=r
  obtain ⟨its,_,p,_⟩:=I.tuple hq
  obtain ⟨o,h1,h2,_⟩:=p
  exact PySem.W.kia_one PySem.W.kitx_tuple I.kIn ⟨o,h1,h2⟩ e (λz=>nomatch z) h
 | @exc a C d fs ha hd k =>
  obtain rfl:u=Value.ref a:=r
  exact Kp I ha hd k e h
def Lw:bz X (.builtin "isinstance") (λxs H Q=>∃v w t c b,xs=[v,w]/\kE X.K H v t/\RelV w c/\(∀c',RelV w c'->c'=c)/\kitOne X.K t c=some b/\Q (.bl b) H):=by
 intro pins s σ H xs us Q I r h
 obtain ⟨v,w,t,c,b,rfl,ty,rw,un,e,q⟩:=h
 obtain ⟨u,w',rfl,ru,rw'⟩:=xC r
 obtain rfl:=un w' rw'
 exact Lv I ru ty e λtk=>⟨.bl b,H,I.tok _,rfl,q⟩
def BL {ρ:Ae}{H:Hp}{st:ae}{x:PV}{v:V}{T:String}(s:a0 K mg ρ H st) (r:R K mg ρ H x v) (h:iu st x=some (.inl T)):kE K H v (.type T):=by
 cases x with
 | non=>cases h;cases r;exact .of .non
 | bl b=>cases h;cases r;exact .of (.bl b)
 | int i=>cases h;cases r;exact .of (.int i)
 | str z=>cases h;cases r;exact .of (.str z)
 | tup xs=>cases h;obtain ⟨a,vs,rfl,h1,_⟩:=r;exact .tup h1
 | frl xs=>cases h
 | ref n =>
  obtain ⟨a,rfl,ha⟩:=r
  have h:kD st[n]?=some (.inl T):=h
  cases e:st[n]? with
  | none=>rw [e] at h;cases h
  | some so =>
   rw [e] at h
   cases so with
   | lst xs=>cases h;obtain ⟨vs,h1,_⟩:=s.addr e ha;exact .of (.lst h1)
   | dic ks xs=>cases h;obtain ⟨vs,h1,_⟩:=s.addr e ha;exact .of (.dK h1)
   | ins c ks xs=>cases h
   | fdi ks xs=>cases h
   | dit ks xs=>cases h
 | ty _=>cases h
 | fn _=>cases h
 | kd _ _=>cases h
 | exo _ _ _=>cases h
def BM {ρ:Ae}{H:Hp}{st:ae}{x:PV}{v:V}{f:Bool}{c:Str}(hx:∀C,f=true->mg c=some (.ref C)->lh K C) (hi:∀C,f=false->mg c=some (.ref C)->rO K C) (s:a0 K mg ρ H st) (r:R K mg ρ H x v) (h:iu st x=some (.inr (f,c))):∃C,mg c=some (.ref C)/\kE K H v (.ref C):=by
 cases x with
 | ref n =>
  obtain ⟨a,rfl,ha⟩:=r
  have h:kD st[n]?=some (.inr (f,c)):=h
  cases e:st[n]? with
  | none=>rw [e] at h;cases h
  | some so =>
   rw [e] at h
   cases so with
   | lst xs=>cases h
   | dic ks xs=>cases h
   | fdi ks xs=>cases h
   | dit ks xs=>cases h
   | ins c' ks xs =>
    cases h
    obtain ⟨C,dx,vs,hC,hH,_⟩:=s.addr e ha
    have q:=hi C rfl hC
    exact ⟨C,hC,.of (.ins hH q.cl q.ha q.hn q.tk q.hm)⟩
 | exo c' ks xs =>
  cases h
  obtain ⟨a,C,d,vs,rfl,hC,hH,hd,_⟩:=r
  exact ⟨C,hC,.exc hH hd (hx C rfl hC)⟩
 | non=>cases h
 | bl _=>cases h
 | int _=>cases h
 | str _=>cases h
 | tup _=>cases h
 | frl _=>cases h
 | ty _=>cases h
 | fn _=>cases h
 | kd _ _=>cases h
def j6 {t:IsT} (F:IsF X.K X.mg t):cg X (.builtin "isinstance") (y7 t):=⟨_,Lw,fun ρ H st xs vs Q E s r h=>by
 match xs,r,h with
 | [x,y],r,h =>
  obtain ⟨v,w,rfl,rx,ry⟩:=Rs.two r
  have h:Out X.K X.mg ρ H (rN t st y (iu st x) st) (gV X.K X.mg Q) E:=h
  cases hc:iu st x with
  | none=>rw [hc] at h;cases y<;>exact h.elim
  | some cc =>
   rw [hc] at h
   cases cc with
   | inl T =>
    cases y with
    | ty n =>
     cases ry
     obtain ⟨b,hb,h⟩:=qi h
     exact ⟨v,_,_,_,b,rfl,BL s rx hc,rfl,λc' h=>h,Lj X.K hb,h.now s _ rfl⟩
    | fn B =>
     obtain ⟨D,rfl,hD⟩:=ry
     obtain ⟨b,hb,h⟩:=qi h
     obtain ⟨D',hD',k⟩:=F.u T B b hb
     rw [hD] at hD'
     cases hD'
     exact ⟨v,_,_,_,b,rfl,BL s rx hc,rfl,λc' h=>h,k,h.now s _ rfl⟩
    | _=>exact h.elim
   | inr fc =>
    obtain ⟨f,c⟩:=fc
    cases y with
    | ty n =>
     cases ry
     obtain ⟨hf,h⟩:=Out.ifp h
     obtain ⟨b,hb,h⟩:=qi h
     obtain ⟨C,hC,k⟩:=F.tt c n b hb
     obtain ⟨C',hC',ty⟩:=BM (λC e hC=>F.x c C (hf.trans e) hC (.inr ⟨n,b,hb⟩)) (λC e hC=>F.i c C (hf.trans e) hC (.inr ⟨n,b,hb⟩)) s rx hc
     rw [hC] at hC'
     cases hC'
     exact ⟨v,_,_,_,b,rfl,ty,rfl,λc' h=>h,k,h.now s _ rfl⟩
    | fn B =>
     obtain ⟨D,rfl,hD⟩:=ry
     obtain ⟨hf,h⟩:=Out.ifp h
     obtain ⟨b,hb,h⟩:=qi h
     obtain ⟨C,D',hC,hD',k⟩:=F.s c B b hb
     rw [hD] at hD'
     cases hD'
     obtain ⟨C',hC',ty⟩:=BM (λC e hC=>F.x c C (hf.trans e) hC (.inl ⟨B,b,hb⟩)) (λC e hC=>F.i c C (hf.trans e) hC (.inl ⟨B,b,hb⟩)) s rx hc
     rw [hC] at hC'
     cases hC'
     exact ⟨v,_,_,_,b,rfl,ty,rfl,λc' h=>h,k,h.now s _ rfl⟩
    | _=>exact h.elim
 | [],r,h=>exact h.elim
 | [_],r,h=>exact h.elim
 | _::_::_::_,r,h=>exact h.elim⟩
end
section
variable {X:Cx}{Er:XK}{K:Frag}{mg:Ab}{a b c e o:Expr}{es:List Expr}{st:Stmt}{cB:List Stmt}{pos p apos pos':Pos}{fa fb fc fo:Ai}{fs:Ah}{k:Nat}{x:Str}{m:Al}
variable {g g' gb:Aj}{ga:Ak}
def Out.fl {ρ:Ae}{H:Hp}{st:ae}{D:Ends}{fl:Fl}{E:XK}(h:Out K mg ρ H (.ok fl st) (gS K mg D) E) (s:a0 K mg ρ H st):gS K mg D ρ H fl st:=h.now s
def zX:Aj:=λenv st=>.ok (.nx env) st
def fw (g:Aj):Fl->Mo Fl
 | .nx env,st=>g env st
 | fl,st=>.ok fl st
def zp (g g':Aj):Aj:=λenv st=>(g env st).bind (fw g')
def yg:dc X Er [] zX:=bS.weak GX λD σ H ⟨env,st,ρ,re,rs,h⟩=>h.now rs σ re
def zx (h1:MS X Er st g) (h2:dc X Er cB g'):dc X Er (st::cB) (zp g g') :=
 bS.weak (GY h1 h2) λD σ H ⟨env,st,ρ,re,rs,h⟩=>⟨env,st,ρ,re,rs,h.then λag H1 fl aa e1 s1 h1=>by
  cases fl with
  | nx bf=>exact λaw Lx=>⟨bf,aa,ag,Lx,s1,h1⟩
  | rt v=>exact Out.fl (D:=D) (fl:=.rt v) (E:=Er) h1 s1
  | bk bf=>exact Out.fl (D:=D) (fl:=.bk bf) (E:=Er) h1 s1
  | ct bf=>exact Out.fl (D:=D) (fl:=.ct bf) (E:=Er) h1 s1⟩
def zy (h1:MS X Er st g):dc X Er [st] g:=xk h1
def zK (i:Nat) (f:Ai):Aj:=λenv st=>(f env st).bind λx aa=>.ok (.nx (env.set i (some x))) aa
def z0 (i:Nat) {x:Str}(he:ME X Er e fa) (hN:X.N.Nodup) (hi:X.N[i]?=some x:=by rfl) (hx:Loc X.env.scope x:=by first|exact Or.inl rfl|exact Or.inr rfl) (hs:swapsWith e (some (.Name x pos')) pos.line X.env=pure false:=by rfl)
  (hf:X.fn x=true\/X.env.scope.names.lookup x=some .local:=by first|exact .inl rfl|exact .inr rfl|assumption):MS X Er (.Assign [.Name x pos'] e pos) (zK i fa) :=
 PS.weak (Hd hN hi hx he hs hf) λD σ H ⟨env,st,ρ,re,rs,h⟩=>⟨env,st,ρ,re,rs,h.then λag H1 x aa e1 s1 h1 v rv=>h1.now s1 _ ((re.ext e1).set i rv)⟩
def j7 (f:Ai):Aj:=λenv st=>(f env st).bind λ_ aa=>.ok (.nx env) aa
def zbk (he:ME X Er e fa) (hs:swapsWith e none pos.line X.env=pure false:=by rfl):MS X Er (.Expr e pos) (j7 fa) :=
 PS.weak (G0 he hs) λD σ H ⟨env,st,ρ,re,rs,h⟩=>⟨env,st,ρ,re,rs,h.then λag H1 x aa e1 s1 h1 v rv=>h1.now s1 _ (re.ext e1)⟩
def zL (f:Ai):Aj:=λenv st=>(f env st).bind λx aa=>.ok (.rt x) aa
def zN (he:ME X Er e fa):MS X Er (.Return (some e) pos) (zL fa) :=
 PS.weak (G8 he) λD σ H ⟨env,st,ρ,re,rs,h⟩=>⟨env,st,ρ,re,rs,h.then λag H1 x aa e1 s1 h1 v rv=>h1.now s1 _ rv⟩
def zS (t:Ak) (g g':Aj):Aj:=λenv st=>(t env st).bind λc aa=>if c=true then g env aa else g' env aa
def ye {A B:List Stmt}(hc:MT X Er c ga) (ha:dc X Er A g) (hb:dc X Er B g'):MS X Er (.If c A B pos) (zS ga g g') :=
 PS.weak (G_ hc ha hb) λD σ H ⟨env,st,ρ,re,rs,h⟩=>⟨env,st,ρ,re,rs,h.then λag H1 k aa e1 s1 h1=>by
  cases k with
  | true=>exact ⟨env,aa,ag,re.ext e1,s1,h1⟩
  | false=>exact ⟨env,aa,ag,re.ext e1,s1,h1⟩⟩
def gJ:Am
 | .int i,.int j,st=>.ok (.int (i+j)) st
 | _,_,_=>.stuck
def n8 (i:Nat) (op:Am) (f:Ai):Aj:=λenv st=>(zd i env st).bind λx cK=>(f env cK).bind λy aa=>(op x y aa).bind λz aK=>.ok (.nx (env.set i (some z))) aK
def rP (X:Cx) (o:Operator) (op:Am):Prop:=∃r,rY X o r/\dJ X.K X.mg r op
def BN:rP X .Add gJ:=⟨_,Hi,by
 intro ρ H st x y v w Q E s rx ry h
 cases x with
 | int i =>
  cases y with
  | int j=>cases rx;cases ry;exact ⟨i,j,rfl,rfl,Out.now (x:=PV.int (i+j)) h s _ rfl⟩
  | _=>exact h.elim
 | _=>exact h.elim⟩
def BO (i:Nat) {x:Str}{o:Operator}{op:Am}(ho:rP X o op) (he:ME X Er e fa) (hN:X.N.Nodup) (hi:X.N[i]?=some x:=by rfl) (hx:Loc X.env.scope x:=by first|exact Or.inl rfl|exact Or.inr rfl)
  (hf:X.fn x=true\/X.env.scope.names.lookup x=some .local:=by first|exact .inl rfl|exact .inr rfl|assumption):MS X Er (.AugAssign (.Name x pos') o e pos) (n8 i op fa):=by
 obtain ⟨r,h1,h2⟩:=ho
 refine PS.weak (Hf hN hi hx he h1 hf) λD σ H ⟨env,st,ρ,re,rs,h⟩=>?_
 unfold n8 zd at h
 cases hx:env[i]? with
 | none=>simp only [hx] at h;exact h.elim
 | some q =>
  cases q with
  | none=>simp only [hx] at h;exact h.elim
  | some x0 =>
   simp only [hx] at h
   obtain ⟨v,hv,rv⟩:=re.at_ i x0 hx
   exact ⟨v,hv,env,st,ρ,re,rs,Out.then (f:=λy aa=>(op x0 y aa).bind λz aK=>Res.ok (Fl.nx (env.set i (some z))) aK) (good:=gS X.K X.mg D) h λag H1 y aa e1 s1 k1 w rw=>h2 ag H1 aa x0 y v w _ Er s1 (R.ext e1 x0 rv) rw (k1.then λao H2 z aK e2 s2 k2 u ru=>k2.now s2 _ (((re.ext e1).ext e2).set i ru))⟩
def putK (f:Str) (x:PV):List Str->List PV->List Str×List PV
 | k::ks,y::ys=>if k=f then (k::ks,x::ys) else (k::(putK f x ks ys).1,y::(putK f x ks ys).2)
 | _,_=>([f],[x])
def BP {ρ:Ae}{H:Hp}{f:Str}{x:PV}{v:V}(r:R K mg ρ H x v):∀{ks:Ad}{xs:An}{vs:List V},ks.length=vs.length->Rs K mg ρ H xs vs->∃ws,bU f v (ks.zip vs)=(putK f x ks xs).1.zip ws/\Rs K mg ρ H (putK f x ks xs).2 ws/\(putK f x ks xs).1.length=ws.length
 | [],xs,vs,hl,h=>by
  have:vs=[]:=by cases vs with|nil=>rfl|cons=>simp at hl
  subst this
  have:xs=[]:=by cases xs with|nil=>rfl|cons=>obtain ⟨_,_,e,_⟩:=h;cases e
  subst this
  exact ⟨[v],rfl,⟨v,[],rfl,r,rfl⟩,rfl⟩
 | k::ks,xs,vs,hl,h=>by
  cases vs with
  | nil=>simp at hl
  | cons v0 vs =>
   cases xs with
   | nil=>cases h
   | cons y ys =>
    obtain ⟨VH,r',e,h1,h2⟩:=h
    cases e
    simp only [putK,List.zip_cons_cons,bU]
    by_cases hk:k=f
    ·rw [zA hk,zA hk]
     exact ⟨v::vs,rfl,⟨v,vs,rfl,r,h2⟩,by simpa using hl⟩
    ·rw [zF hk,zF hk]
     obtain ⟨ws,e1,e2,e3⟩:=BP r (by simpa using hl) h2
     exact ⟨v0::ws,by rw [e1];rfl,⟨v0,ws,rfl,h1,e2⟩,by simp [e3]⟩
def putAt (f:Str) (ins:Str->Bool) (x:PV):PV->Mo Unit
 | .ref n,st=>yS st n λc ks xs=>if ins c=true/\ks.length<1000 then .ok () (st.set n (.ins c (putK f x ks xs).1 (putK f x ks xs).2)) else .stuck
 | _,_=>.stuck
def sFld (f:Str) (ins:Str->Bool) (fo fv:Ai):Aj:=λenv st=>(fv env st).bind λx aa=>(fo env aa).bind λo aK=>(putAt f ins x o aK).bind λ_ aX=>.ok (.nx env) aX
def wL {f:Str}{ins exc:Str->Bool}(F:FldF X.K X.mg f ins exc) (ho:ME X Er o fo) (he:ME X Er e fa) (hs:swapsWith e (some (.Attribute o f pos')) pos.line X.env=pure false:=by rfl):MS X Er (.Assign [.Attribute o f pos'] e pos) (sFld f ins fo fa) :=
 PS.weak (H8 ho he hs) λD σ H ⟨env,st,ρ,re,rs,h⟩=>⟨env,st,ρ,re,rs,h.then λag H1 x aa e1 s1 h1 v rv=>⟨env,aa,ag,re.ext e1,s1,h1.then λao H2 y aK e2 s2 h2 w rw=>by
  cases y with
  | ref n =>
   cases hn:aK[n]? with
   | none=>simp only [putAt,yS,hn] at h2;exact h2.elim
   | some so =>
    cases so with
    | lst _=>simp only [putAt,yS,hn] at h2;exact h2.elim
    | dic _ _=>simp only [putAt,yS,hn] at h2;exact h2.elim
    | fdi _ _=>simp only [putAt,yS,hn] at h2;exact h2.elim
    | dit _ _=>simp only [putAt,yS,hn] at h2;exact h2.elim
    | ins c ks xs =>
     simp only [putAt,yS,hn] at h2
     by_cases hc:ins c=true/\ks.length<1000
     ·rw [zA hc] at h2
      obtain ⟨p,rfl,hp⟩:=rw
      obtain ⟨C',dx,vs,hC',hH,hR,hl⟩:=s2.addr hn hp
      obtain ⟨C,hC,cl,na⟩:=F.i c hc.1
      rw [hC] at hC'
      cases hC'
      obtain ⟨ws,k1,k2,k3⟩:=BP (f:=f) (R.ext e2 x rv) hl hR
      refine ⟨p,_,dx,_,rfl,hH,cl,na,?_,?_⟩
      ·rw [List.length_zip,<-hl];have:=hc.2;omega
      ·have ew:Ext ao H2 ao (upd H2 p (.ins C' dx (bU f v (ks.zip vs)))):=Ext.write hH rfl
       exact h2 ao _ ew (s2.write hp ew ⟨_,dx,ws,hC,by rw [yC,k1],Rs.ext ew _ k2,k3⟩) σ (((re.ext e1).ext e2).ext ew)
     ·rw [zF hc] at h2;exact h2.elim
  | _=>exact h2.elim⟩⟩
def MG (X:Cx) (Er:XK) (e:Expr) (g:PV->zc->Option zc):Prop:=PG X e λv σ H Q=>∃x env b_ ρ,R X.K X.mg ρ H x v/\a8 X.K X.mg ρ H env σ/\g x env=some b_/\∀ah,a8 X.K X.mg ρ H b_ ah->Q ah H
def PG.weak {t t':TG}(h:PG X e t) (w:∀v σ H Q,t' v σ H Q->t v σ H Q):PG X e t':=λpins s σ H v u Q I r q=>h pins s σ H v u Q I r (w v σ H Q q)
def gN (i:Nat):PV->zc->Option zc:=λx env=>some (env.set i (some x))
def ji (i:Nat) {x:Str}(hN:X.N.Nodup) (hi:X.N[i]?=some x:=by rfl) (hx:Loc X.env.scope x:=by first|exact Or.inl rfl|exact Or.inr rfl) (hf:X.fn x=true\/X.env.scope.names.lookup x=some .local:=by first|exact .inl rfl|exact .inr rfl|assumption):MG X Er (.Name x pos) (gN i) :=
 PG.weak (wR hN hi hx hf) λv σ H Q ⟨x,env,b_,ρ,rx,re,hg,q⟩=>by
  cases hg
  exact q _ (re.set i rx)
def g2 (i j:Nat):PV->zc->Option zc
 | .tup [x,y],env=>some ((env.set i (some x)).set j (some y))
 | _,_=>none
def Ly {i j:Nat}{x:PV}{env b_:zc}(h:g2 i j x env=some b_):∃y z,x=.tup [y,z]/\b_=(env.set i (some y)).set j (some z):=by
 unfold g2 at h
 split at h
 ·cases h;exact ⟨_,_,rfl,rfl⟩
 ·cases h
def qj (i j:Nat) {x y:Str}{kt:Nat}{px py:Pos}(hc:X.calm=true) (hN:X.N.Nodup) (hi:X.N[i]?=some x:=by rfl) (hj:X.N[j]?=some y:=by rfl) (hx:Loc X.env.scope x:=by first|exact Or.inl rfl|exact Or.inr rfl) (hy:Loc X.env.scope y:=by first|exact Or.inl rfl|exact Or.inr rfl)
  (hf:X.fn x=true\/X.env.scope.names.lookup x=some .local:=by first|exact .inl rfl|exact .inr rfl|assumption) (Lz:X.fn y=true\/X.env.scope.names.lookup y=some .local:=by first|exact .inl rfl|exact .inr rfl|assumption):MG X Er (.Tuple [.Name x px,.Name y py] kt pos) (g2 i j) :=
 PG.weak (xv (n:=2) hc (pD (wR hN hi hx hf) (pD (wR hN hj hy Lz) xq))) λv σ H Q ⟨x,env,b_,ρ,rx,re,hg,q⟩=>by
  obtain ⟨y,z,rfl,rfl⟩:=Ly hg
  obtain ⟨a,vs,rfl,h1,h2⟩:=rx
  obtain ⟨u,w,rfl,r1,r2⟩:=Rs.two h2
  exact ⟨a,_,rfl,h1,rfl,u,[w],rfl,w,[],rfl,rfl,q _ ((re.set i r1).set j r2)⟩
def g3 (i j k:Nat):PV->zc->Option zc
 | .tup [x,y,z],env=>some (((env.set i (some x)).set j (some y)).set k (some z))
 | _,_=>none
inductive Sq where
 | im (xs:An)|rf (n:Nat)
def Walk (K:Frag) (mg:Ab) (J:It) (ρ:Ae) (H:Hp):Sq->Prop
 | .im xs=>(∀i aj H',Ext ρ H aj H'->i<xs.length->J.go i H')/\(∀i aj H',Ext ρ H aj H'->xs.length<=i->J.stop i H') /\
  ∀i aj H' st v H2,Ext ρ H aj H'->a0 K mg aj H' st->i<xs.length->J.yld i H' v H2->∃x,xs[i]?=some x/\Ext aj H' aj H2/\a0 K mg aj H2 st/\R K mg aj H2 x v
 | .rf n=>∃a,ρ[n]?=some a/\J=pF K a
def MI (X:Cx) (Er:XK) (tg iter:Expr) (src:zc->Mo Sq):Prop:=PI X tg iter fun σ H R=>∃env st ρ,a8 X.K X.mg ρ H env σ/\a0 X.K X.mg ρ H st/\Out X.K X.mg ρ H (src env st) (λaj H' q bh=>∀J,Walk X.K X.mg J aj H' q->R J H') Er
def forL (g:PV->zc->Option zc) (body:Aj):List PV->Aj
 | [],env,st=>.ok (.nx env) st
 | x::xs,env,st=>match g x env with
  | none=>.stuck
  | some bf=>(body bf st).bind λfl aK=>match fl with
   | .nx e=>forL g body xs e aK
   | .ct e=>forL g body xs e aK
   | .bk e=>.ok (.nx e) aK
   | .rt v=>.ok (.rt v) aK
def forR (g:PV->zc->Option zc) (body:Aj) (n:Nat):Nat->Nat->Aj
 | 0,_,_,_=>.stuck
 | m+1,i,env,st=>yp st n λxs=>match xs[i]? with
  | none=>.ok (.nx env) st
  | some x=>match g x env with
   | none=>.stuck
   | some bf=>(body bf st).bind λfl aK=>match fl with
    | .nx e=>forR g body n m (i+1) e aK
    | .ct e=>forR g body n m (i+1) e aK
    | .bk e=>.ok (.nx e) aK
    | .rt v=>.ok (.rt v) aK
def n9 (g:PV->zc->Option zc) (body:Aj):Sq->Aj
 | .im xs=>forL g body xs
 | .rf n=>forR g body n (lim+1) 0
def yZ (src:zc->Mo Sq) (g:PV->zc->Option zc) (body:Aj):Aj:=λenv st=>(src env st).bind λq aa=>n9 g body q env aa
def jR {tg iter:Expr}{src:zc->Mo Sq}{gt:PV->zc->Option zc}(hp:PassesOwn (model X.prog X.w) X.A X.env X.xe) (hc:X.calm=true) (hi:MI X Er tg iter src) (hg:MG X Er tg gt) (hb:dc X Er cB gb)
  (hs:∀x,foldedSetIterable iter X.env x=pure x:=by intro _;rfl):MS X Er (.For tg iter cB [] pos) (yZ src gt gb) :=
 PS.weak (mU hp hc hi hg hb hs) λD σ H ⟨env,st,ρ,re,rs,h⟩=>⟨env,st,ρ,re,rs,h.then λaq H0 q cK e0 s0 h0 J wk=>by
  cases q with
  | im xs =>
   obtain ⟨w1,w2,w3⟩:=wk
   refine ⟨λi m σ H=>m=xs.length-i/\i<=xs.length/\∃env st ρ,a8 X.K X.mg ρ H env σ/\a0 X.K X.mg ρ H st/\Ext aq H0 ρ H/\Out X.K X.mg ρ H (forL gt gb (xs.drop i) env st) (gS X.K X.mg D) Er,⟨xs.length,by simp,jk _,env,cK,aq,re.ext e0,s0,Ext.refl,h0⟩,?_⟩
   rintro i m σ H ⟨rfl,hi,env,st,ρ,re,rs,ex,h⟩
   by_cases a7:i<xs.length
   ·refine .inr ⟨w1 i ρ H ex a7,_,λah H' p'=>⟨xs.length-(i+1),by omega,rfl,a7,p'⟩,λv H' y=>?_⟩
    obtain ⟨x,hx,bK,s2,rx⟩:=w3 i ρ H st v H' ex rs a7 y
    have hd:xs.drop i=x::xs.drop (i+1):=by
     rw [jK a7]
     have:=(yr.mp hx).2
     rw [this]
    rw [hd] at h
    cases hgx:gt x env with
    | none=>simp only [forL,hgx] at h;exact h.elim
    | some bf =>
     simp only [forL,hgx] at h
     refine ⟨x,env,bf,ρ,rx,re.ext bK,hgx,λaw r1=>⟨bf,st,ρ,r1,s2,Out.then (Out.ext h bK) λal H3 fl aX e3 s3 h3=>?_⟩⟩
     cases fl with
     | nx e=>exact λay r4=>⟨e,aX,al,r4,s3,(ex.trans bK).trans e3,h3⟩
     | ct e=>exact λay r4=>⟨e,aX,al,r4,s3,(ex.trans bK).trans e3,h3⟩
     | bk e=>exact Out.fl (D:=D) (fl:=.nx e) (E:=Er) h3 s3
     | rt v=>exact Out.fl (D:=D) (fl:=.rt v) (E:=Er) h3 s3
   ·have e:i=xs.length:=by omega
    subst e
    rw [List.drop_length] at h
    exact .inl ⟨w2 _ ρ H ex (ya _),Out.now (x:=Fl.nx env) h rs σ re⟩
  | rf n =>
   obtain ⟨a,ha,rfl⟩:=wk
   refine ⟨λi m σ H=>∃env st ρ,a8 X.K X.mg ρ H env σ/\a0 X.K X.mg ρ H st/\ρ[n]?=some a/\Out X.K X.mg ρ H (forR gt gb n m i env st) (gS X.K X.mg D) Er,⟨lim+1,env,cK,aq,re.ext e0,s0,ha,h0⟩,?_⟩
   rintro i m σ H ⟨env,st,ρ,re,rs,ha,h⟩
   cases m with
   | zero=>exact h.elim
   | succ m =>
    obtain ⟨xs,hn,h⟩:=jm h
    obtain ⟨vs,hH,hR⟩:=rs.addr hn ha
    cases hx:xs[i]? with
    | none =>
     simp only [hx] at h
     have:vs.length<=i:=by rw [<-hR.len];exact iX.mp hx
     exact .inl ⟨⟨vs,a4.of hH,this⟩,Out.now (x:=Fl.nx env) h rs σ re⟩
    | some x =>
     simp only [hx] at h
     obtain ⟨v,hv,rv⟩:=hR.get hx
     refine .inr ⟨⟨vs,v,a4.of hH,hv⟩,_,λah H' p'=>⟨m,jP m,p'⟩,λv' H' y=>?_⟩
     obtain ⟨e1,y⟩:=y
     subst e1
     have e2:=y vs (a4.of hH)
     rw [hv] at e2
     cases e2
     cases hgx:gt x env with
     | none=>simp only [hgx] at h;exact h.elim
     | some bf =>
      simp only [hgx] at h
      refine ⟨x,env,bf,ρ,rv,re,hgx,λaw r1=>⟨bf,st,ρ,r1,rs,Out.then h λal H3 fl aX e3 s3 h3=>?_⟩⟩
      cases fl with
      | nx e=>exact λay r4=>⟨e,aX,al,r4,s3,e3.get ha,h3⟩
      | ct e=>exact λay r4=>⟨e,aX,al,r4,s3,e3.get ha,h3⟩
      | bk e=>exact Out.fl (D:=D) (fl:=.nx e) (E:=Er) h3 s3
      | rt v=>exact Out.fl (D:=D) (fl:=.rt v) (E:=Er) h3 s3⟩
end
section
variable {X:Cx}{Er:XK}{K:Frag}{mg:Ab}{a b c e o tg:Expr}{es:List Expr}{st:Stmt}{cB:List Stmt}{pos p apos pos':Pos}{fa fb fc fo:Ai}{fs:Ah}{k:Nat}{x:Str}{m:Al}
variable {g g' gb:Aj}{ga:Ak}
def PI.weak {t t':TI}(h:PI X tg e t) (w:∀σ H Q,t' σ H Q->t σ H Q):PI X tg e t':=λpins s σ H Q I q=>h pins s σ H Q I (w σ H Q q)
def LB (K:Frag) (tl:TE):TI:=fun σ H R=>tl σ H λx H1=>(∃a,x=.ref a/\(∃xs,a4 K H1 a xs)/\R (pF K a) H1)\/(∃a,x=.ref a/\(∃xs,ba K H1 a xs)/\R (lK K a) H1)\/∃z,x=.str z/\R (sS z) H1
def LC {l:Expr}{tl:TE}(hl:PE X l tl):PI X tg l (LB X.K tl):=by
 intro pins s σ H R I h
 refine aS (hl pins s σ H _ I h) λv s1 ⟨x,H1,I1,r1,q1⟩=>?_
 have fin:∀b∈[s1.heap.objs.size],cD X pins H1 b:=λb hb=>by
  have e:b=s1.heap.objs.size:=by simpa using hb
  subst e
  exact I1.fpOk (ya _) (I1.hok.fresh (ya _))
 rcases q1 with ⟨a,e,⟨xs,hq⟩,q⟩|⟨a,e,⟨xs,hq⟩,q⟩|⟨z,rfl,q⟩
 ·subst e
  cases r1
  obtain ⟨its,rv,p,hz⟩:=I1.list hq
  exact wpAny_pyIter_list p.isList ⟨s1.heap.objs.size,[s1.heap.objs.size],_,_,H1,rfl,I1.kept (t':=s1.toks) (λb o e=>z9 _ e),Hl a _,⟨_,yB _ rfl,rfl,rfl⟩,fin,q⟩
 ·subst e
  cases r1
  obtain ⟨its,rv,p,hz⟩:=I1.tuple hq
  exact wpAny_pyIter_tuple (show s1.heap.IsTuple a its.toArray from p) ⟨s1.heap.objs.size,[s1.heap.objs.size],_,_,H1,rfl,I1.kept (t':=s1.toks) (λb o e=>z9 _ e),Hm a _,⟨_,yB _ rfl,rfl,rfl⟩,fin,q⟩
 ·obtain ⟨t,rfl⟩:=r1
  cases ha:z.cps.all (·<128) with
  | false=>exact wpAny_pyIter_wide ha ⟨s1.heap.objs.size,[s1.heap.objs.size],_,_,H1,rfl,I1.kept (t':=s1.toks) (λb o e=>z9 _ e),AU z t _ "str_iterator" (.inr rfl),⟨_,yB _ rfl,rfl,rfl⟩,fin,q⟩
  | true=>exact wpAny_pyIter_ascii ha ⟨s1.heap.objs.size,[s1.heap.objs.size],_,_,H1,rfl,I1.kept (t':=s1.toks) (λb o e=>z9 _ e),AU z t _ "str_ascii_iterator" (.inl rfl),⟨_,yB _ rfl,rfl,rfl⟩,fin,q⟩
def LF {ρ:Ae}{H:Hp}{a:Addr}{xs:An}{vs:List V}(h:ba K H a vs) (r:Rs K mg ρ H xs vs):Walk K mg (lK K a) ρ H (.im xs):=by
 refine ⟨λi aj H' e hi=>?_,λi aj H' e hi=>⟨vs,e.sqT h,by rw [<-r.len];exact hi⟩,λi aj H' st v H2 e s hi y=>?_⟩
 ·obtain ⟨v,hv,_⟩:=r.get (yu hi)
  exact ⟨vs,v,e.sqT h,hv⟩
 ·obtain ⟨e1,y⟩:=y
  subst e1
  obtain ⟨v',hv,rv⟩:=r.get (yu hi)
  have:=y vs (e.sqT h)
  rw [hv] at this
  cases this
  exact ⟨_,yu hi,Ext.refl,s,R.ext e _ rv⟩
def LG {ρ:Ae}{H:Hp}{a:Addr}{xs:An}{vs:List V}(h:gG K H a vs) (r:Rs K mg ρ H xs vs):Walk K mg (pF K a) ρ H (.im xs):=by
 have hs:∀{aj H'},Ext ρ H aj H'->a4 K H' a vs:=λe=>(e.frl h).sq
 refine ⟨λi aj H' e hi=>?_,λi aj H' e hi=>⟨vs,hs e,by rw [<-r.len];exact hi⟩,λi aj H' st v H2 e s hi y=>?_⟩
 ·obtain ⟨v,hv,_⟩:=r.get (yu hi)
  exact ⟨vs,v,hs e,hv⟩
 ·obtain ⟨e1,y⟩:=y
  subst e1
  obtain ⟨v',hv,rv⟩:=r.get (yu hi)
  have:=y vs (hs e)
  rw [hv] at this
  cases this
  exact ⟨_,yu hi,Ext.refl,s,R.ext e _ rv⟩
def signs (z:Str):An:=z.cps.toList.map λc=>.str ⟨#[c]⟩
def LH {ρ:Ae}{H:Hp}(z:Str):Walk K mg (sS z) ρ H (.im (signs z)):=by
 have hl:(signs z).length=z.cps.size:=by simp [signs]
 refine ⟨λi aj H' e hi=>by rw [hl] at hi;exact hi,λi aj H' e hi=>by rw [hl] at hi;exact hi,λi aj H' st v H2 e s hi y=>?_⟩
 obtain ⟨e1,c,hc,e2⟩:=y
 subst e1 e2
 refine ⟨.str ⟨#[c]⟩,?_,Ext.refl,s,rfl⟩
 simp [signs,hc]
def nums (lo:Int) (n:Nat):An:=(List.range n).map λi=>.int (lo+(i:Nat))
def LI {ρ:Ae}{H:Hp}(lo:Int) (n:Nat):Walk K mg (mS lo n) ρ H (.im (nums lo n)):=by
 have hl:(nums lo n).length=n:=by simp [nums]
 refine ⟨λi aj H' e hi=>by rw [hl] at hi;exact hi,λi aj H' e hi=>by rw [hl] at hi;exact hi,λi aj H' st v H2 e s hi y=>?_⟩
 obtain ⟨e1,e2⟩:=y
 subst e1 e2
 rw [hl] at hi
 exact ⟨.int (lo+i),by simp [nums,hi],Ext.refl,s,rfl⟩
def kF:PV->Mo Sq
 | .tup xs,st=>.ok (.im xs) st
 | .frl xs,st=>.ok (.im xs) st
 | .str z,st=>.ok (.im (signs z)) st
 | .ref n,st=>yp st n λ_=>.ok (.rf n) st
 | _,_=>.stuck
def yt (f:Ai):zc->Mo Sq:=λenv st=>(f env st).bind kF
def y0 (h:ME X Er e fa):MI X Er tg e (yt fa):=PI.weak (LC h) fun σ H Q ⟨env,st,ρ,re,rs,h⟩=>⟨env,st,ρ,re,rs,h.then λag H1 x aa e1 s1 h1 v rv=>by
 cases x with
 | tup xs =>
  obtain ⟨a,vs,rfl,k1,k2⟩:=rv
  exact .inr (.inl ⟨a,rfl,⟨vs,k1⟩,Out.now (x:=Sq.im xs) h1 s1 _ (LF k1 k2)⟩)
 | frl xs =>
  obtain ⟨a,vs,rfl,k1,k2⟩:=rv
  exact .inl ⟨a,rfl,⟨vs,k1.sq⟩,Out.now (x:=Sq.im xs) h1 s1 _ (LG k1 k2)⟩
 | str z =>
  cases rv
  exact .inr (.inr ⟨z,rfl,Out.now (x:=Sq.im (signs z)) h1 s1 _ (LH z)⟩)
 | ref n =>
  obtain ⟨a,rfl,ha⟩:=rv
  obtain ⟨xs,hn,h1⟩:=jm h1
  obtain ⟨vs,k1,k2⟩:=s1.addr hn ha
  exact .inl ⟨a,rfl,⟨vs,a4.of k1⟩,h1.now s1 _ ⟨a,ha,rfl⟩⟩
 | _=>exact h1.elim⟩
abbrev cR (j:Int):Bool:=decide (-(2 ^ 62)<=j)&&decide (j<2 ^ 62)
def l0:List PV->Mo Sq
 | [.int j],st=>if cR j=true then .ok (.im (nums 0 j.toNat)) st else .stuck
 | _,_=>.stuck
def LJ:List PV->Mo Sq
 | [.int i,.int j],st=>if cR i=true/\cR j=true then .ok (.im (nums i (j-i).toNat)) st else .stuck
 | _,_=>.stuck
def LM {ρ:Ae}{H:Hp}{xs:An}{st:ae}{good:List Addr->Hp->Sq->ae->Prop}(h:Out K mg ρ H (l0 xs st) good Er):∃j,xs=[.int j] /\ -(2 ^ 62)<=j/\j<2 ^ 62/\Out K mg ρ H (.ok (.im (nums 0 j.toNat)) st) good Er:=by
 unfold l0 at h
 split at h
 ·obtain ⟨c,h⟩:=Out.ifp h
  simp [cR] at c
  exact ⟨_,rfl,c.1,c.2,h⟩
 ·exact h.elim
def eP (fs:Ah):zc->Mo Sq:=λenv st=>(fs env st).bind l0
def r6 (fs:Ah):zc->Mo Sq:=λenv st=>(fs env st).bind LJ
def LQ {a:Expr} (hm:X.mg "range" = none) (ha:MA X Er [a] fs) (hg:Gl X "range" := by rfl) (hs:starEach [a] X.env=[(false,eval a X.env)]:=by rfl):MI X Er tg (.Call (.Name "range" p) [a] [] pos) (eP fs) :=
 PI.weak (Hq hg hm ha hs) fun σ H Q ⟨env,st,ρ,re,rs,h⟩=>⟨env,st,ρ,re,rs,h.then λag H1 xs aa e1 s1 h1 vs rv=>by
  obtain ⟨j,rfl,c1,c2,h1⟩:=LM h1
  obtain ⟨v,rfl,rfl⟩:=Rs.one rv
  exact ⟨j,rfl,c1,c2,h1.now s1 _ (LI 0 j.toNat)⟩⟩
def jS (xs ys:An):An:=(xs.zip ys).map λq=>.tup [q.1,q.2]
def n_:List PV->Mo Sq
 | [.tup xs,.tup ys],st=>.ok (.im (jS xs ys)) st
 | _,_=>.stuck
def LR {ρ:Ae}{H:Hp}{xs:An}{st:ae}{good:List Addr->Hp->Sq->ae->Prop}(h:Out K mg ρ H (n_ xs st) good Er):∃ys zs,xs=[.tup ys,.tup zs]/\Out K mg ρ H (.ok (.im (jS ys zs)) st) good Er:=by
 unfold n_ at h
 split at h
 ·exact ⟨_,_,rfl,h⟩
 ·exact h.elim
def LS {ρ:Ae}{H:Hp}{a b:Addr}{xs ys:An}{vs ws:List V}(h:ba K H a vs) (r:Rs K mg ρ H xs vs) (h':ba K H b ws) (r':Rs K mg ρ H ys ws):Walk K mg (tG K a b) ρ H (.im (jS xs ys)):=by
 have hl:(jS xs ys).length=min xs.length ys.length:=by simp [jS]
 have l1:=r.len
 have l2:=r'.len
 refine ⟨λi aj H' e hi=>?_,λi aj H' e hi=>⟨vs,ws,e.sqT h,e.sqT h',by rw [hl] at hi;omega⟩,λi aj H' st v H2 e s hi y=>?_⟩
 ·rw [hl] at hi
  obtain ⟨v,hv,_⟩:=r.get (yu (show i<xs.length by omega))
  obtain ⟨w,hw,_⟩:=r'.get (yu (show i<ys.length by omega))
  exact ⟨vs,ws,v,w,e.sqT h,e.sqT h',hv,hw⟩
 ·rw [hl] at hi
  obtain ⟨T,v',w',hT,rfl,rfl,y1,y2⟩:=y
  have k1:i<xs.length:=by omega
  have k2:i<ys.length:=by omega
  obtain ⟨v,hv,rv⟩:=r.get (yu k1)
  obtain ⟨w,hw,rw'⟩:=r'.get (yu k2)
  have q1:=y1 vs (e.sqT h)
  have q2:=y2 ws (e.sqT h')
  rw [hv] at q1
  rw [hw] at q2
  cases q1;cases q2
  refine ⟨.tup [xs[i],ys[i]],?_,Ext.new hT,s.new hT,R.tup_of ⟨_,[_],rfl,R.ext e _ rv,_,[],rfl,R.ext e _ rw',rfl⟩ hT⟩
  rw [jS,jr,yu (by simp;omega)]
  simp
def og (fs:Ah):zc->Mo Sq:=λenv st=>(fs env st).bind n_
def BR {elts:List Expr} {kt:Nat} {tp:Pos} {x y:Expr} (hm:X.mg "zip" = none) (ha:MA X Er [x,y] fs) (hg:Gl X "zip" := by rfl) (hs:starEach [x,y] X.env=[(false,eval x X.env),(false,eval y X.env)]:=by rfl) (dW:starEach [y] X.env=[(false,eval y X.env)]:=by rfl) :
  MI X Er (.Tuple elts kt tp) (.Call (.Name "zip" p) [x,y] [] pos) (og fs) :=
 PI.weak (Kz hg hm ha hs dW) fun σ H Q ⟨env,st,ρ,re,rs,h⟩=>⟨env,st,ρ,re,rs,h.then λag H1 xs aa e1 s1 h1 vs rv=>by
  obtain ⟨ys,zs,rfl,h1⟩:=LR h1
  obtain ⟨v,w,rfl,⟨a,us,rfl,k1,k2⟩,⟨b,ws,rfl,k3,k4⟩⟩:=Rs.two rv
  exact ⟨a,b,rfl,⟨us,k1⟩,⟨ws,k3⟩,h1.now s1 _ (LS k1 k2 k3 k4)⟩⟩
def bB (t:Ak) (b:Aj):Nat->Aj
 | 0,_,_=>.stuck
 | n+1,env,st=>(t env st).bind λc aa=>if c=true then (b env aa).bind λfl aK=>match fl with
   | .nx e=>bB t b n e aK
   | .ct e=>bB t b n e aK
   | .bk e=>.ok (.nx e) aK
   | .rt v=>.ok (.rt v) aK
  else .ok (.nx env) aa
def l5 (t:Ak) (b:Aj):Aj:=bB t b lim
def LU (hp:PassesOwn (model X.prog X.w) X.A X.env X.xe) (hc:MT X Er c ga) (hb:dc X Er cB gb):MS X Er (.While c cB [] pos) (l5 ga gb) :=
 PS.weak (Hk hp hc hb) λD σ H ⟨env,st,ρ,re,rs,h⟩=>by
  refine ⟨λm σ H=>∃env st ρ,a8 X.K X.mg ρ H env σ/\a0 X.K X.mg ρ H st/\Out X.K X.mg ρ H (bB ga gb m env st) (gS X.K X.mg D) Er,⟨lim,env,st,ρ,re,rs,h⟩,?_⟩
  rintro m σ H ⟨env,st,ρ,re,rs,h⟩
  cases m with
  | zero=>exact h.elim
  | succ m =>
   refine ⟨env,st,ρ,re,rs,Out.then h λag H1 k aa e1 s1 h1=>?_⟩
   cases k with
   | true =>
    change (if true=true then _ else D.nx σ H1)
    rw [zA rfl]
    refine ⟨_,λah H' p'=>⟨m,jP m,p'⟩,env,aa,ag,re.ext e1,s1,Out.then h1 λal H3 fl aX e3 s3 h3=>?_⟩
    cases fl with
    | nx e=>exact λay r4=>⟨e,aX,al,r4,s3,h3⟩
    | ct e=>exact λay r4=>⟨e,aX,al,r4,s3,h3⟩
    | bk e=>exact Out.fl (D:=D) (fl:=.nx e) (E:=Er) h3 s3
    | rt v=>exact Out.fl (D:=D) (fl:=.rt v) (E:=Er) h3 s3
   | false =>
    have z:D.nx σ H1:=Out.fl (D:=D) (fl:=.nx env) (E:=Er) h1 s1 σ (re.ext e1)
    exact z
def l6 (cn fld:Str) (f:Ai):Aj:=λenv st=>(f env st).bind λx aa=>.err cn [fld] [x] aa
def LV {cn fld:Str} {np aV:Pos} (C:uc X.prog X.w X.K X.mg X.base cn fld) (he:ME X Er e fa) (hr:aY 2 X.A) (ht:j2 X Er) (hc:X.calm=true) (hg:Gl X cn:=by rfl) (cf:(cn==("__debug__" : Str))=false:=by decide)
  (hs:starEach [e] X.env=(false,eval e X.env)::starEach [] X.env:=by rfl):MS X Er (.Raise (some (.Call (.Name cn np) [e] [] aV)) none pos) (l6 cn fld fa):=by
 obtain ⟨C,f,fd,hm,M,F,hb⟩:=C
 exact PS.weak (Ka he M F hr hg hm hb (nG ht) ht.one hc cf hs) λD σ H ⟨env,st,ρ,re,rs,h⟩=>⟨env,st,ρ,re,rs,h.then λag H1 x aa e1 s1 h1 v rv d hd=>by
  exact h1 ag _ _ _ (Ext.new hd) (s1.new hd) ⟨C,rfl,hm,.inr ⟨d,[v],rfl,yC,⟨v,[],rfl,R.ext (Ext.new hd) x rv,rfl⟩,rfl⟩⟩⟩
def nE (cn:Str):Aj:=λ_ st=>.err cn [] [] st
def br {α:Type}:Res α->Res α
 | .err _ _ _ _=>.stuck
 | r=>r
def j8 {α β:Type}{ρ:Ae}{H:Hp}{r:Res β}{f:β->Mo α}{good:List Addr->Hp->α->ae->Prop}{dz:List Addr->Hp->β->ae->Prop}{E E':XK}(h:Out K mg ρ H ((br r).bind f) good E) (g:∀aj H' x st,Ext ρ H aj H'->a0 K mg aj H' st->Out K mg aj H' (f x st) good E->dz aj H' x st):Out K mg ρ H r dz E':=by
 cases r with
 | ok x st=>exact λaj H' e s=>g aj H' x st e s (Out.ext h e)
 | err=>exact h.elim
 | stuck=>exact h.elim
def LW (K:Frag) (mg:Ab) (f:Ai):TX:=fun σ H Q E=>∃env st ρ,a8 K mg ρ H env σ/\a0 K mg ρ H st/\Out K mg ρ H (f env st) (gV K mg Q) E
def MX (X:Cx) (e:Expr) (f:Ai):Prop:=PX X e (LW X.K X.mg f)
def PX.weak {t t':TX}(h:PX X e t) (w:∀σ H Q E,t' σ H Q E->t σ H Q E):PX X e t':=λpins s σ H Q E I q=>h pins s σ H Q E I (w σ H Q E q)
def LX (X:Cx) (name:Str) (k:Nat) (ta:TE) (t:TA):TX:=fun σ H Q E=>ta σ H λx H1=>∃a C dx fs f fd ps sp,x=.ref a/\H1 a=some (.ins C dx fs)/\fs.lookup name=none/\dY X.K C/\Meth X.K C name f/\Binds X.K fd ps []/\a_ X.prog X.w X.K X.mg X.base (bV X.prog X.w) k f fd ps sp /\
 t σ H1 λvs H2=>sp (x::vs) H2 Q E
def LY {pl:Sem Bool}{name:Str}{ta:TE}{t:TA}(he:PE X.nox o ta) (hr:aY k X.A) (ha:PA X.nox (e::es) t)
  (a9:starEach (e::es) X.env=(false,eval e X.env)::starEach es X.env:=by rfl) (bp:(backTo pos (starEach es X.env)).any (·.1)=false:=by rfl)
  (ht:eval (.Call (.Attribute o name apos) (e::es) [] pos) X.env=(do
   let ov <-eval o X.env
   standAt apos.atName
   let (f,first) <-holding [ov] (getMethod ov name pl)
   callWith pos f first (backTo pos (starEach (e::es) X.env)) (backToKw pos (keywordEach [] X.env))):=by rfl) :
  PX X (.Call (.Attribute o name apos) (e::es) [] pos) (LX X name k ta t):=by
 intro pins s σ H Q E I h
 refine PySem.W.methodCall_KW (pl:=pl) (yV (he pins s σ H _ (I.wish _) h) (λu s1 ⟨x,H1,I1,rx,a,C,dx,fs,f,fd,ps,sp,ex,ea,l,c,hm,hb,F,q⟩=>?_) λ_ _ z=>z.elim) ht
 subst ex
 obtain rfl:u=Value.ref a:=rx
 refine xI I1.unwish ea c hm l ?_
 refine PySem.W.callWith_K (first:=[.ref a]) (h₀:=X.base) I.ok.mod.kin hm.kp (yV (ha pos pins s1 σ H1 _ I1 q) (λus s2 ⟨vs,H2,I2,r,q2⟩=>⟨I2.unwish.kIn,?_⟩) λ_ _ z=>z.elim) a9 bp
 exact Kb (us:=.ref a::us) (vs:=.ref a::vs) F hr hb .nil I2.unwish (.cons rfl r) (by rw [List.append_nil];exact q2)
def fO (name:Str) (tab:Str->Option (Al)) (fo:Ai) (fs:Ah):Ai:=λenv st=>(br (fo env st)).bind λo aa=>gI name tab o aa λn m=>(br (fs env aa)).bind λys aK=>m (.ref n::ys) aK
def LZ {pl:Sem Bool}{name:Str}{tab:Str->Option (Al)}(hT:∀c m,tab c=some m->dm X.prog X.w X.K X.mg X.base c name k m) (ho:ME X.nox E0 o fo) (hr:aY k X.A) (ha:MA X.nox E0 (e::es) fs)
  (a9:starEach (e::es) X.env=(false,eval e X.env)::starEach es X.env:=by rfl) (bp:(backTo pos (starEach es X.env)).any (·.1)=false:=by rfl)
  (ue:eval (.Call (.Attribute o name apos) (e::es) [] pos) X.env=(do
   let ov <-eval o X.env
   standAt apos.atName
   let (f,first) <-holding [ov] (getMethod ov name pl)
   callWith pos f first (backTo pos (starEach (e::es) X.env)) (backToKw pos (keywordEach [] X.env))):=by rfl) :
  MX X (.Call (.Attribute o name apos) (e::es) [] pos) (fO name tab fo fs) :=
 PX.weak (LY (pl:=pl) ho hr ha a9 bp ue) fun σ H Q E ⟨env,st,ρ,re,rs,h⟩=>⟨env,st,ρ,re,rs,j8 h λag H1 x aa e1 s1 h1 v rv=>by
  obtain ⟨n,c,ks,xs,m,rfl,hn,hk,hc,h1⟩:=BK h1
  obtain ⟨C,f,fd,ps,hC,cl,hm,hb,F⟩:=hT c m hc
  obtain ⟨p,rfl,hp⟩:=rv
  obtain ⟨C',dx,vs,hC',hH,hR,hl⟩:=s1.addr hn hp
  rw [hC] at hC'
  cases hC'
  exact ⟨p,C,dx,_,f,fd,ps,_,rfl,hH,nZ hk,cl,hm,hb,F,env,aa,ag,re.ext e1,s1,j8 h1 λao H2 ys aK e2 s2 h2 ws rws=>⟨.ref n::ys,aK,ao,⟨_,_,rfl,⟨p,rfl,e2.get hp⟩,rws⟩,s2,h2⟩⟩⟩
def iw (ks:Ad) (ps:An):PV->Mo PV
 | .str z,st=>bA ((ks.zip ps).lookup z) st
 | _,_=>.stuck
def KdF (X:Cx) (name:Str) (ks:Ad) (ps:An) (full:Bool):Prop:=∃O,X.mg name=some (.ref O)/\KD X O/\(∀z q,(ks.zip ps).lookup z=some q->∃u v,nsIn X.K O z=some (some u)/\RelV v u/\∀ρ H,R X.K X.mg ρ H q v)/\(full=true->∀z,(ks.zip ps).lookup z=none->nsIn X.K O z=some none)
def zer {name:Str} {ks:Ad} {ps:An} {full:Bool} (F:KdF X name ks ps full) (hb:ME X Er b fb) (hs:d_ b:=by exact λ_ _=>rfl) (hg:Gl X name:=by rfl) (hd:(name==("__debug__" : Str))=false:=by decide):ME X Er (.Subscript (.Name name p) b pos) (yz (iw ks ps) fb):=by
 obtain ⟨O,hm,kd,hl,_⟩:=F
 refine PE.weak (x5 KA (rX (v:=.ref O) hg hm rfl hd) hb hs) fun σ H Q ⟨env,st,ρ,re,rs,h⟩=>⟨env,st,ρ,re,rs,h.then λag H1 x aa e1 s1 h1 v rv=>?_⟩
 cases x with
 | str z =>
  cases rv
  obtain ⟨q,hq,h1⟩:=wY h1
  obtain ⟨u,v,h2,h3,h4⟩:=hl z q hq
  exact ⟨O,z,u,v,rfl,rfl,kd,h2,h3,h1.now s1 _ (h4 _ _)⟩
 | _=>exact h1.elim
def eJ (neg:Bool) (ks:Ad) (ps:An) (full:Bool):PV->Mo PV
 | .str z,st=>if ((ks.zip ps).lookup z).isSome=true\/full=true then .ok (.bl (neg.xor ((ks.zip ps).lookup z).isSome)) st else .stuck
 | _,_=>.stuck
def L5 {name:Str}{ks:Ad}{ps:An}{full:Bool}{O:Addr}(hl:∀z q,(ks.zip ps).lookup z=some q->∃u v,nsIn X.K O z=some (some u)/\RelV v u/\∀ρ H,R X.K X.mg ρ H q v) (hf:full=true->∀z,(ks.zip ps).lookup z=none->nsIn X.K O z=some none) {z:Str}(h:((ks.zip ps).lookup z).isSome=true\/full=true):∃r,nsIn X.K O z=some r/\r.isSome=((ks.zip ps).lookup z).isSome:=by
 cases hq:(ks.zip ps).lookup z with
 | some q=>obtain ⟨u,v,h2,_⟩:=hl z q hq;exact ⟨_,h2,rfl⟩
 | none =>
  rw [hq] at h
  rcases h with h|h
  ·cases h
  ·exact ⟨none,hf h z hq,rfl⟩
def zpg {name:Str} {ks:Ad} {ps:An} {full:Bool} (F:KdF X name ks ps full) (ha:ME X Er a fa) (hg:Gl X name:=by rfl) (hd:(name==("__debug__" : Str))=false:=by decide) (hk:behindInMarks .NotIn (.Name name p)=false:=by with_unfolding_all rfl):MT X Er (.Compare a [.NotIn] [.Name name p] pos) (mB (yz (eJ true ks ps full) fa)):=by
 obtain ⟨O,hm,kd,hl,hf⟩:=F
 refine PT.weak (xA KC ha (rX (v:=.ref O) hg hm rfl hd) hk) fun σ H Q h=>?_
 obtain ⟨env,st,ρ,re,rs,h⟩:=tK h
 refine ⟨env,st,ρ,re,rs,h.then λag H1 x aa e1 s1 h1 v rv=>?_⟩
 cases x with
 | str z =>
  cases rv
  obtain ⟨q,h1⟩:=Out.ifp h1
  obtain ⟨r,h2,h3⟩:=L5 (name:=name) hl hf q
  have:=Out.now h1 s1 _ rfl
  exact ⟨O,z,r,rfl,rfl,kd,h2,by rw [h3];simpa using this⟩
 | _=>exact h1.elim
def wZ:Am
 | .ref n,y,st=>yp st n λxs=>if xs.length<lim then .ok .non (st.set n (.lst (xs++[y]))) else .stuck
 | _,_,_=>.stuck
def uf:Am
 | .ref n,.ref k,st=>yp st n λxs=>yp st k λys=>if xs.length+ys.length<=lim then .ok .non (st.set n (.lst (xs++ys))) else .stuck
 | _,_,_=>.stuck
def R.refL {ρ:Ae}{H:Hp}{st:ae}{n:Nat}{xs:An}{v:V}(s:a0 K mg ρ H st) (r:R K mg ρ H (.ref n) v) (h:st[n]?=some (.lst xs)):∃a vs,v=.ref a/\ρ[n]?=some a/\H a=some (.lst vs)/\Rs K mg ρ H xs vs:=by
 obtain ⟨a,rfl,ha⟩:=r
 obtain ⟨vs,h1,h2⟩:=s.addr h ha
 exact ⟨a,vs,rfl,ha,h1,h2⟩
def gk:PV->Mo PV
 | .ref n,st=>yp st n λ_=>.ok (.ref n) st
 | _,_=>.stuck
def w6 (op:Am) (fo fv:Ai):Ai:=λenv st=>(fo env st).bind λo aa=>(gk o aa).bind λo aa=>(fv env aa).bind λy aK=>op o y aK
def ug {α:Type}{ρ:Ae}{H:Hp}{x:PV}{st:ae}{f:PV->Mo α}{good:List Addr->Hp->α->ae->Prop}(h:Out K mg ρ H ((gk x st).bind f) good Er):∃n xs,x=.ref n/\st[n]?=some (.lst xs)/\Out K mg ρ H (f (.ref n) st) good Er:=by
 cases x with
 | ref n =>
  unfold gk yp at h
  cases hn:st[n]? with
  | none=>simp only [hn] at h;exact h.elim
  | some so =>
   cases so with
   | lst xs=>simp only [hn] at h;exact ⟨n,xs,rfl,hn,h⟩
   | _=>simp only [hn] at h;exact h.elim
 | _=>exact h.elim
def zhC {aV:Pos} (ho:ME X Er o fo) (he:ME X Er e fa) (bX:attributeBase o "append" X.env (eval o X.env)=eval o X.env:=by rfl)
  (eh:((backTo aV (starEach [e] X.env)).all (λx=>!x.1)&&(backToKw aV (keywordEach [] X.env)).all (λx=>x.1.isSome)&&decide ([e].length+([]:List Keyword).length+(if ([]:List Keyword).isEmpty then 0 else 1)<30))=true:=by rfl)
  (c7:(apos.endLine==aV.line)=true:=by rfl) (hs:starEach [e] X.env=(false,eval e X.env)::starEach [] X.env:=by rfl) (bp:(backTo aV (starEach [] X.env)).any (·.1)=false:=by rfl):ME X Er (.Call (.Attribute o "append" apos) [e] [] aV) (w6 wZ fo fa) :=
 PE.weak (su PySem.F.plainAttrs_list PySem.F.slot_list_append PySem.F.type_list_append zna ho (pK he pJ hs) bX eh c7 hs bp) fun σ H Q ⟨env,st,ρ,re,rs,h⟩=>⟨env,st,ρ,re,rs,h.then λag H1 x aa e1 s1 h1 v rv=>by
  obtain ⟨n,xs,rfl,hn,h1⟩:=ug h1
  obtain ⟨p,vs,rfl,hp,k1,k2⟩:=R.refL s1 rv hn
  refine ⟨.inl ⟨rfl,vs,a4.of k1⟩,env,aa,ag,re.ext e1,s1,h1.then λao H2 y aK e2 s2 h2 w rw=>?_⟩
  obtain ⟨l8,du,h2⟩:=jm h2
  obtain ⟨c,h2⟩:=Out.ifp h2
  obtain ⟨p',gE,e3,nq,k3,k4⟩:=R.refL s2 (R.ext e2 _ rv) du
  cases e3
  have ew:Ext ao H2 ao (upd H2 p (.lst (gE++[w]))):=Ext.write k3 rfl
  refine ⟨p,gE,w,rfl,rfl,k3,?_,h2 ao _ ew (s2.write nq ew ⟨gE++[w],yC,Rs.ext ew _ (k4.append ⟨w,[],rfl,rw,rfl⟩)⟩) _ rfl⟩
  rw [<-k4.len,sizeLine_eq];have:l8.length<1000000:=c;omega⟩
def zph {aV:Pos} (ho:ME X Er o fo) (he:ME X Er e fa) (bX:attributeBase o "extend" X.env (eval o X.env)=eval o X.env:=by rfl)
  (eh:((backTo aV (starEach [e] X.env)).all (λx=>!x.1)&&(backToKw aV (keywordEach [] X.env)).all (λx=>x.1.isSome)&&decide ([e].length+([]:List Keyword).length+(if ([]:List Keyword).isEmpty then 0 else 1)<30))=true:=by rfl)
  (c7:(apos.endLine==aV.line)=true:=by rfl) (hs:starEach [e] X.env=(false,eval e X.env)::starEach [] X.env:=by rfl) (bp:(backTo aV (starEach [] X.env)).any (·.1)=false:=by rfl):ME X Er (.Call (.Attribute o "extend" apos) [e] [] aV) (w6 uf fo fa) :=
 PE.weak (su PySem.F.plainAttrs_list PySem.F.slot_list_extend PySem.F.type_list_extend znc ho (pK he pJ hs) bX eh c7 hs bp) fun σ H Q ⟨env,st,ρ,re,rs,h⟩=>⟨env,st,ρ,re,rs,h.then λag H1 x aa e1 s1 h1 v rv=>by
  obtain ⟨n,xs,rfl,hn,h1⟩:=ug h1
  obtain ⟨p,vs,rfl,hp,k1,k2⟩:=R.refL s1 rv hn
  refine ⟨.inl ⟨rfl,vs,a4.of k1⟩,env,aa,ag,re.ext e1,s1,h1.then λao H2 y aK e2 s2 h2 w rw=>?_⟩
  cases y with
  | ref m =>
   obtain ⟨l8,du,h2⟩:=jm h2
   obtain ⟨VI,L6,h2⟩:=jm h2
   obtain ⟨c,h2⟩:=Out.ifp h2
   obtain ⟨p',gE,e3,nq,k3,k4⟩:=R.refL s2 (R.ext e2 _ rv) du
   cases e3
   obtain ⟨q,uh,rfl,gF,k5,k6⟩:=R.refL s2 rw L6
   have ew:Ext ao H2 ao (upd H2 p (.lst (gE++uh))):=Ext.write k3 rfl
   exact ⟨p,q,gE,uh,rfl,rfl,k3,k5,by rw [<-k4.len,<-k6.len];exact y4 c,h2 ao _ ew (s2.write nq ew ⟨gE++uh,yC,Rs.ext ew _ (k4.append k6)⟩) _ rfl⟩
  | _=>exact h2.elim⟩
end
def endOf:Fl->Mo PV
 | .rt v,st=>.ok v st
 | .nx _,st=>.ok .non st
 | _,_=>.stuck
def zH (np nN:Nat) (g:Aj):Al:=λxs st=>if xs.length=np then (g (xs.map some++List.replicate (nN-np) none) st).bind endOf else .stuck
section
variable {P:Program}{w:World}{K:Frag}{mg:Ab}{base:Heap}
abbrev qk (P:Program) (w:World) (K:Frag) (mg:Ab) (base:Heap) (N:Ad) (qual:Str) (scope:Scope) (f:Addr) (cd:Value) (A:Around) (outer:List Env) (s:Shared) (H:Hp) (E:XK):Cx :=
 (cY (bV P w) P w K mg base N qual scope f cd A outer s H E).wish (XA (cY (bV P w) P w K mg base N qual scope f cd A outer s H E) E)
def L7 {N:Ad}{np:Nat}{ρ:Ae}{H:Hp}{xs:An}{vs:List V}(r:Rs K mg ρ H xs vs) (h:xs.length=np):a8 K mg ρ H (xs.map some++List.replicate (N.length-np) none) (L2.start N vs):=by
 have hl:=r.len
 refine ⟨by simp [L2.start,<-hl,h],λi x hx=>?_⟩
 by_cases hi:i<xs.length
 ·rw [g8 (by simpa using hi)] at hx
  simp only [jr] at hx
  cases hq:xs[i]? with
  | none=>rw [hq] at hx;cases hx
  | some y =>
   rw [hq] at hx
   cases hx
   obtain ⟨v,hv,rv⟩:=r.get hq
   refine ⟨v,?_,rv⟩
   unfold L2.start
   rw [g8 (by simp;omega)]
   simp [hv]
 ·rw [iW (by simpa using hi)] at hx
  rw [List.getElem?_replicate] at hx
  split at hx<;>cases hx
def ql {x qual:Str}{sm:Stmt}{f:Addr}{fd:FuncData}{N ps:Ad}{k:Nat}{g:Aj}(F:dk K x qual sm f fd) (S:ax N ps (zE sm))
  (hb:∀(aW:Value) (A:Around) (outer:List Env) (s:Shared) (H:Hp) (E:XK),aY k (A.deeper (PyProof.Rows.envOfC qual (zE sm) s.heap.objs.size f aW))->dc (qk P w K mg base N qual (zE sm) f aW A outer s H E) E (jf sm) g) :
  a_ P w K mg base (bV P w) (k+1) f fd ps (gd K mg (zH ps.length N.length g)):=by
 refine F.okT S (λvs H Q E h=>?_) λaW A outer s H vs Q E hr h=>⟨_,hb aW A outer s H E hr,?_⟩
 ·obtain ⟨xs,st,ρ,r,_,h⟩:=h
  obtain ⟨hl,_⟩:=Out.ifp h
  rw [<-r.len];exact hl
 ·obtain ⟨xs,st,ρ,r,rs,h⟩:=h
  obtain ⟨hl,h⟩:=Out.ifp h
  refine ⟨_,st,ρ,L7 r hl,rs,h.then λag H1 fl aa e1 s1 h1=>?_⟩
  cases fl with
  | rt v=>exact λu ru=>Out.now (x:=v) h1 s1 u ru
  | nx e=>exact λah _=>Out.now (x:=PV.non) h1 s1 _ rfl
  | _=>exact h1.elim
def L8 {x:Str}{f:Addr}{fd:FuncData}{ps:Ad}{k:Nat}{m:Al}{sm:Stmt}{qual nm:Str}(hm:mg x=some (.ref f)) (F:dk K nm qual sm f fd) (hb:Binds K fd ps []) (h:a_ P w K mg base (bV P w) k f fd ps (gd K mg m)):a5 P w K mg base x k m:=⟨f,fd,ps,hm,F.kp,hb,h⟩
end
section
variable {X:Cx}{Er:XK}{P:Program}{w:World}{K:Frag}{mg:Ab}{base:Heap}{pos:Pos}{x:Str}{st:Stmt}
def zq {k:Nat}{A:Around}(hr:aY k A):A.units+200<cLine:=by have:=hr.un;omega
def yf:Aj:=λ_ _=>.stuck
def yo:MS X Er st yf:=PS.weak Ha λD σ H ⟨env,st,ρ,re,rs,h⟩=>h
def uk {n:Int} (h:∃t,X.mg x=some (.int n t)) (hg:Gl X x:=by rfl) (hd:(x==("__debug__" : Str))=false:=by decide):ME X Er (.Name x pos) (mC (.int n)):=let ⟨t,h⟩:=h;KL (v:=.int n) h ⟨t,rfl⟩ (λ_ _=>rfl) hg hd
def FnF (K:Frag) (mg:Ab) (x:Str) (sm:Stmt) (ps:Ad):Prop:=∃f fd,mg x=some (.ref f)/\dk K x x sm f fd/\Binds K fd ps []
def MtF (K:Frag) (mg:Ab) (c name qual:Str) (sm:Stmt) (ps:Ad):Prop:=∃C f fd,mg c=some (.ref C)/\dY K C/\Meth K C name f/\dk K name qual sm f fd/\Binds K fd ps []
def NwF (K:Frag) (mg:Ab) (c qual:Str) (sm:Stmt) (ps:Ad):Prop:=∃C f fd,mg c=some (.ref C)/\Mk K C f/\dk K "__init__" qual sm f fd/\Binds K fd ps []
def XnF (K:Frag) (mg:Ab) (c fld qual:Str) (sm:Stmt):Prop:=∃C f fd,mg c=some (.ref C)/\eD K C f/\ku K C fld/\dk K "__init__" qual sm f fd/\Binds K fd ["self", fld] []
def FnF.ok {sm:Stmt}{N ps:Ad}{k:Nat}{g:Aj}(h:FnF K mg x sm ps) (S:ax N ps (zE sm))
  (hb:∀(f:Addr) (aW:Value) (A:Around) (outer:List Env) (s:Shared) (H:Hp) (E:XK),aY k (A.deeper (PyProof.Rows.envOfC x (zE sm) s.heap.objs.size f aW))->dc (qk P w K mg base N x (zE sm) f aW A outer s H E) E (jf sm) g) :
  a5 P w K mg base x (k+1) (zH ps.length N.length g):=by
 obtain ⟨f,fd,hm,F,b⟩:=h
 exact L8 hm F b (ql F S (hb f))
def MtF.ok {c name qual:Str}{sm:Stmt}{N ps:Ad}{k:Nat}{g:Aj}(h:MtF K mg c name qual sm ps) (S:ax N ps (zE sm))
  (hb:∀(f:Addr) (aW:Value) (A:Around) (outer:List Env) (s:Shared) (H:Hp) (E:XK),aY k (A.deeper (PyProof.Rows.envOfC qual (zE sm) s.heap.objs.size f aW))->dc (qk P w K mg base N qual (zE sm) f aW A outer s H E) E (jf sm) g) :
  dm P w K mg base c name (k+1) (zH ps.length N.length g):=by
 obtain ⟨C,f,fd,hm,cl,mt,F,b⟩:=h
 exact ⟨C,f,fd,ps,hm,cl,mt,b,ql F S (hb f)⟩
def NwF.ok {c qual:Str}{sm:Stmt}{N ps:Ad}{k:Nat}{g:Aj}(h:NwF K mg c qual sm ps) (S:ax N ps (zE sm))
  (hb:∀(f:Addr) (aW:Value) (A:Around) (outer:List Env) (s:Shared) (H:Hp) (E:XK),aY k (A.deeper (PyProof.Rows.envOfC qual (zE sm) s.heap.objs.size f aW))->dc (qk P w K mg base N qual (zE sm) f aW A outer s H E) E (jf sm) g) :
  nY P w K mg base c (k+1) (zH ps.length N.length g):=by
 obtain ⟨C,f,fd,hm,mk,F,b⟩:=h
 exact ⟨C,f,fd,ps,hm,mk,b,ql F S (hb f)⟩
def XnF.ok {c fld qual:Str} {sm:Stmt} (h:XnF K mg c fld qual sm) (S:ax ["self", fld] ["self", fld] (zE sm))
  (hb:∀(C f:Addr) (aW:Value) (A:Around) (outer:List Env) (s:Shared) (H:Hp) (E:XK),ku K C fld->bS (cY (bV P w) P w K mg base ["self", fld] qual (zE sm) f aW A outer s H E) (jf sm) (Bj K (pq 0) (pq 1) fld)) :
  uc P w K mg base c fld:=by
 obtain ⟨C,f,fd,hm,M,xc,F,b⟩:=h
 refine ⟨C,f,fd,hm,M,F.okX S (λvs H Q E h=>?_) (λaW A outer s H vs Q E hr h=>⟨_,hb C f aW A outer s H E xc,?_⟩),b⟩
 ·obtain ⟨a,t,y,rfl,_⟩:=h;rfl
 ·obtain ⟨a,t,y,rfl,ha,q⟩:=h
  exact ⟨y,rfl,.ref a,rfl,a,C,t,rfl,ha,xc,λd hd=>q d hd⟩
def XnF.tr {c fld qual:Str}{sm:Stmt}(h:XnF K mg c fld qual sm):∃C,mg c=some (.ref C)/\fK K C:=by
 obtain ⟨C,f,fd,hm,M,_⟩:=h
 exact ⟨C,hm,M.of⟩
def qm {p:Addr} {oc:Value} {od:Option Addr} {its:Array Value} {n:Nat} {sl:Array (Option Value)} {xs:An} {vs:List V} (hl:K.lookup p=some ⟨oc,od,.seq its n,sl⟩) (hc:oc=.type "tuple") (hz:its.size<=1000) (hv:Vals vs its.toList) (hr:∀ρ H,Rs K mg ρ H xs vs):∀ρ H,R K mg ρ H (.tup xs) (.ref p) :=
 fun ρ H=>⟨p,vs,rfl,.inr ⟨_,its,n,hl,hc,rfl,by rw [sizeLine_eq];omega,hv⟩,hr ρ H⟩
def jv:bootBuiltins "len" = some (.builtin "len"):=by decide +kernel
def j9:bootBuiltins "isinstance" = some (.builtin "isinstance"):=by decide +kernel
def qo:bootBuiltins "int" = some (.type "int"):=by decide +kernel
def L9:bootBuiltins "bool" = some (.type "bool"):=by decide +kernel
def BS:bootBuiltins "str" = some (.type "str"):=by decide +kernel
def jw:bootBuiltins "tuple" = some (.type "tuple"):=by decide +kernel
def BU:bootBuiltins "dict" = some (.type "dict"):=by decide +kernel
def L_:bootBuiltins "list" = some (.type "list"):=by decide +kernel
end
def a5.mono {P:Program}{w:World}{K:Frag}{mg:Ab}{base:Heap}{x:Str}{j k:Nat}{m:Al}(h:a5 P w K mg base x j m) (um:j<=k):a5 P w K mg base x k m:=by
 obtain ⟨f,fd,ps,h1,h2,h3,h4⟩:=h
 exact ⟨f,fd,ps,h1,h2,h3,h4.mono um⟩
def dm.mono {P:Program}{w:World}{K:Frag}{mg:Ab}{base:Heap}{c x:Str}{j k:Nat}{m:Al}(h:dm P w K mg base c x j m) (um:j<=k):dm P w K mg base c x k m:=by
 obtain ⟨C,f,fd,ps,h1,h2,h3,h4,h5⟩:=h
 exact ⟨C,f,fd,ps,h1,h2,h3,h4,h5.mono um⟩
def gK (K:Frag):Sp:=λvs H Q _=>∃(a:Addr) (ns:List Int),vs=[.ref a]/\a4 K H a (ns.map V.int)/\Only H/\ns.length<=63/\∀H',Q (.bl true) H'
def BV {K:Frag}{mg:Ab}{ρ:Ae}{H:Hp}:∀ns:List Int,Rs K mg ρ H (ns.map PV.int) (ns.map V.int)
 | []=>rfl
 | n::ns=>⟨_,_,rfl,rfl,BV ns⟩
def Ma {K:Frag}{H:Hp}{a:Addr}{vs:List V}(h:a4 K H a vs) (o:Only H):gG K H a vs:=by
 rcases h with (h|⟨ob,h⟩)|h
 ·rcases o a with z|⟨ob,xs,z⟩
  ·rw [h] at z;cases z
  ·rw [h] at z;cases z
 ·exact .inl ⟨ob,h⟩
 ·exact .inr h
def Mb {P:Program}{w:World}{K:Frag}{mg:Ab}{base:Heap}{k:Nat}{f:Addr}{fd:FuncData}{ps:Ad}{m:Al}(F:a_ P w K mg base (bV P w) k f fd ps (gd K mg m)) (h:∀ns:List Int,ns.length<=63->∃st,m [.frl (ns.map PV.int)] []=.ok (.bl true) st):a_ P w K mg base (bV P w) k f fd ps (gK K) :=
 F.imp λvs H Q E ⟨a,ns,e,hs,ho,hl,q⟩=>by
  subst e
  obtain ⟨st,hm⟩:=h ns hl
  refine ⟨[.frl (ns.map PV.int)],[],[],⟨_,[],rfl,⟨a,_,rfl,Ma hs ho,BV ns⟩,rfl⟩,⟨rfl,List.nodup_nil,λn so e=>by simp at e⟩,?_⟩
  rw [hm]
  intro aj H' _ _ v rv
  cases rv
  exact q H'
def walkM {l:PySem.W.OpenLaw}{k:Nat}{x:Str}{q:Program}{loose:Ad}{XP:(Ab)->Heap->Prop}{YP:World->Heap->Prop}{d:DefRec}{K:Params->PySem.W.Frag}(hn:l.most=some 63) (m6:d.params.defaults=[]) (hr:aY k callerA)
  (hY:∀(w:World) (h:Heap),YP w h->(K w.params).In h)
  (F:∀(w:World) (mg:Ab) (fa:Addr) (h:Heap),(K w.params).In h->h.Ns mainGlobals mg->mg d.name=some (.ref fa) ->
   ∃fd:FuncData,(∀(s:Shared) (u:Value),BindsTo s fd ⟨[u],[]⟩ [(x,u)])/\∀base:Heap,(K w.params).In base->base.Ns mainGlobals mg->a_ l.prog w (K w.params) mg base (bV l.prog w) k fa fd [x] (gK (K w.params))) :
  PySem.W.WalkO q loose XP YP l.row.toRowW d [] (λf vs=>PySem.call f vs) :=
 L2.znj (n:=63) (k:=k) (x:=x) (CX:=λw=>bV l.prog w) (sp:=λw=>gK (K w.params)) hn (by decide) m6 hr hY F (λ_ _ a ns hl ho hS=>⟨a,ns,rfl,hS,ho,hl,λ_=>rfl⟩) λw H s e s' ⟨_,_,_,_,_,_,_,_,_,_,_,_,_,_,_,z⟩=>z
section
variable {α β:Type}{env:zc}{st aa:ae}{fa fb fc fo fv:Ai}{fs:Ah}{ga gb:Ak}{g g':Aj}{op di:Am}{o1:PV->Mo PV}{m:Al}
@[simp] def zJ (a:α) (f:α->Mo β):(Res.ok a st).bind f=f a st:=(rfl)
@[simp] def oh (c:Str) (ks:Ad) (xs:An) (f:α->Mo β):(Res.err c ks xs st:Res α).bind f=.err c ks xs st:=(rfl)
@[simp] def VJ (f:α->Mo β):(Res.stuck:Res α).bind f=.stuck:=(rfl)
@[simp] def VL (p:Prop) [Decidable p] (a b:Res α) (f:α->Mo β):(if p then a else b).bind f=if p then a.bind f else b.bind f:=by split<;>rfl
@[simp] def Mc (i:Nat):zd i env st=(match env[i]? with|some (some x)=>.ok x st|_=>.stuck):=(rfl)
@[simp] def VM (x:PV):mC x env st=.ok x st:=(rfl)
@[simp] def Md:zh op fa fb env st=(fa env st).bind λx aa=>(fb env aa).bind λy aK=>op x y aK:=(rfl)
@[simp] def Me:yz o1 fa env st=(fa env st).bind o1:=(rfl)
@[simp] def Mf:mB fa env st=(fa env st).bind fN:=(rfl)
@[simp] def BW (b:Bool):fN (.bl b) st=.ok b st:=(rfl)
@[simp] def VN:nM op di fa fb fc env st=(fa env st).bind λx aa=>(fb env aa).bind λy aK=>(op x y aK).bind λk aX=>(fN k aX).bind λb eU=>if b=true then (fc env eU).bind λz cU=>di y z cU else .ok (.bl false) eU:=(rfl)
@[simp] def BX:jE ga gb env st=(ga env st).bind λc aa=>if c=true then gb env aa else .ok false aa:=(rfl)
@[simp] def BZ:wJ ga gb env st=(ga env st).bind λc aa=>if c=true then .ok true aa else gb env aa:=(rfl)
@[simp] def Mg:lY ga env st=(ga env st).bind λc aa=>.ok (!c) aa:=(rfl)
@[simp] def Mh:kB fa fb env st=(fa env st).bind λx aa=>(fN x aa).bind λc aK=>if c=true then fb env aK else .ok (.bl false) aK:=(rfl)
@[simp] def VO:zk env st=.ok [] st:=(rfl)
@[simp] def zev:ze fa fs env st=(fa env st).bind λx aa=>(fs env aa).bind λxs aK=>.ok (x::xs) aK:=(rfl)
@[simp] def B0:zW fs env st=(fs env st).bind λxs aa=>if xs.length<=lim then .ok (.tup xs) aa else .stuck:=(rfl)
@[simp] def Mj:y6 fs env st=(fs env st).bind λxs aa=>if xs.length<=lim then .ok (.ref aa.length) (aa++[.lst xs]) else .stuck:=(rfl)
@[simp] def Ml (fl fu:zc->Mo (Option Int)):kC fa fl fu env st=(fa env st).bind λx aa=>(fl env aa).bind λl aK=>(fu env aK).bind λu aX=>nU x l u aX:=(rfl)
@[simp] def Mm:d5 fa env st=(fa env st).bind t_:=(rfl)
@[simp] def Mn (i:Int):t_ (.int i) st=.ok (some i) st:=(rfl)
@[simp] def Mp:zt m fs env st=(fs env st).bind m:=(rfl)
@[simp] def VP (C:Int->Int->Bool) (f:Int->Int->Int) (i j:Int):opI C f (.int i) (.int j) st=if C i j=true then .ok (.int (f i j)) st else .stuck:=(rfl)
@[simp] def VQ (f:Int->Int->Bool) (i j:Int):nS f (.int i) (.int j) st=.ok (.bl (f i j)) st:=(rfl)
@[simp] def VR (i:Int):nQ (.int i) st=.ok (.int (-i)) st:=(rfl)
@[simp] def VS (i j:Int):yx (.int i) (.int j) st=.ok (.int (i+j)) st:=(rfl)
@[simp] def Mq (x y:Str):yx (.str x) (.str y) st=if x.length+y.length<=lim then .ok (.str (x++y)) st else .stuck:=(rfl)
@[simp] def VT (x:PV):bA (some x) st=.ok x st:=(rfl)
@[simp] def Mr (xs:An) (l u:Option Int):nU (.tup xs) l u st=.ok (.tup (cI xs l u)) st:=(rfl)
@[simp] def Ms (xs:An) (l u:Option Int):nU (.frl xs) l u st=.ok (.ref st.length) (st++[.lst (cI xs l u)]):=(rfl)
@[simp] def Mt (n:Nat):nW [.ref n] st=yp st n λxs=>.ok (.int xs.length) st:=(rfl)
@[simp] def Mu (k:Bool):nX [.bl k] st=.ok (.int (if k then 1 else 0)) st:=(rfl)
@[simp] def VU (x y:PV):yc x y st=if plain x=true/\plain y=true/\dep x<=150 then .ok (.bl (bo x y)) st else .stuck:=(rfl)
@[simp] def VW (x y:PV):ju x y st=if plain x=true/\plain y=true/\dep x<=150 then .ok (.bl (!bo x y)) st else .stuck:=(rfl)
@[simp] def Mv:zX env st=.ok (.nx env) st:=(rfl)
@[simp] def uq:zp g g' env st=(g env st).bind (fw g'):=(rfl)
@[simp] def Mw:fw g (.nx env) st=g env st:=(rfl)
@[simp] def Mx (x:PV):fw g (.rt x) st=.ok (.rt x) st:=(rfl)
@[simp] def My (i:Nat):zK i fa env st=(fa env st).bind λx aa=>.ok (.nx (env.set i (some x))) aa:=(rfl)
@[simp] def Mz:j7 fa env st=(fa env st).bind λ_ aa=>.ok (.nx env) aa:=(rfl)
@[simp] def B1:zL fa env st=(fa env st).bind λx aa=>.ok (.rt x) aa:=(rfl)
@[simp] def B2:zS ga g g' env st=(ga env st).bind λc aa=>if c=true then g env aa else g' env aa:=(rfl)
@[simp] def VX (c f:Str):l6 c f fa env st=(fa env st).bind λx aa=>.err c [f] [x] aa:=(rfl)
@[simp] def VY (i j:Nat) (x y:PV):g2 i j (.tup [x,y]) env=some ((env.set i (some x)).set j (some y)):=(rfl)
@[simp] def MC (x:PV):endOf (.rt x) st=.ok x st:=(rfl)
@[simp] def VZ (e:zc):endOf (.nx e) st=.ok .non st:=(rfl)
@[simp] def kG:yt fa env st=(fa env st).bind kF:=(rfl)
@[simp] def ur (n:Nat):kF (.ref n) st=yp st n λ_=>.ok (.rf n) st:=(rfl)
@[simp] def V0:og fs env st=(fs env st).bind n_:=(rfl)
@[simp] def V1 (xs ys:An):n_ [.tup xs,.tup ys] st=.ok (.im (jS xs ys)) st:=(rfl)
@[simp] def B3 (src:zc->Mo Sq) (gt:PV->zc->Option zc):yZ src gt g env st=(src env st).bind λq aa=>n9 gt g q env aa:=(rfl)
@[simp] def V2 (gt:PV->zc->Option zc) (xs:An):n9 gt g (.im xs) env st=forL gt g xs env st:=(rfl)
@[simp] def V3 (i:Int):Mi.plain (.int i)=true:=(rfl)
@[simp] def V4 (x:Str):Mi.plain (.str x)=true:=(rfl)
@[simp] def V6 (i:Int):dep (.int i)=0:=(rfl)
@[simp] def V7 (x:Str):dep (.str x)=0:=(rfl)
@[simp] def V8 (a b:Int):bo (.int a) (.int b)=(a==b):=(rfl)
@[simp] def V9 (a b:Str):bo (.str a) (.str b)=(a==b):=(rfl)
@[simp] def jY (a:α):br (Res.ok a st)=.ok a st:=(rfl)
@[simp] def V_:cH .non=true:=(rfl)
def yA {n:Nat}{xs:An}(h:st[n]?=some (.lst xs)) (k:List PV->Res α):yp st n k=k xs:=by unfold yp;rw [h]
def qp {n:Nat}{c:Str}{ks:Ad}{xs:An}(h:st[n]?=some (.ins c ks xs)) (k:Str->List Str->List PV->Res α):yS st n k=k c ks xs:=by unfold yS;rw [h]
@[simp] def MD (f:Str) (i x:Str->Bool) (n:Nat):bj f i x (.ref n) st=yS st n λc ks xs=>if i c=true then bA ((ks.zip xs).lookup f) st else .stuck:=(rfl)
@[simp] def MF (f:Str) (i x:Str->Bool) (c:Str) (ks:Ad) (xs:An):bj f i x (.exo c ks xs) st=if x c=true then bA ((ks.zip xs).lookup f) st else .stuck:=(rfl)
@[simp] def Wa (ks:Ad) (ps:An) (z:Str):iw ks ps (.str z) st=bA ((ks.zip ps).lookup z) st:=(rfl)
@[simp] def Wb (tab:Str->Option (Al)):ud tab fa fs env st=(fa env st).bind λf aa=>match f with | .fn x=>(match tab x with|some m=>(fs env aa).bind m|none=>.stuck)|_=>.stuck:=(rfl)
@[simp] def MH (f:Str) (i:Str->Bool):Mi.sFld f i fo fv env st=(fv env st).bind λx aa=>(fo env aa).bind λo aK=>(putAt f i x o aK).bind λ_ aX=>.ok (.nx env) aX:=(rfl)
@[simp] def ML:w6 op fo fv env st=(fo env st).bind λo aa=>(gk o aa).bind λo aa=>(fv env aa).bind λy aK=>op o y aK:=(rfl)
@[simp] def MP (n:Nat):gk (.ref n) st=yp st n λ_=>.ok (.ref n) st:=(rfl)
@[simp] def MQ (a b:String):(Str.ofString a=Str.ofString b)↔a=b:=by
 constructor
 ·intro h
  rw [Str.ofString_eq_byList] at h
  have h1:(a.toList.map Char.toNat)=(b.toList.map Char.toNat):=by
   have:=congrArg (λz=>z.cps.toList) h
   simpa [Str.ofStringByList] using this
  apply String.ext_iff.mpr
  exact (List.map_inj_right (λc d e=>Char.toNat_inj.mp e)).mp h1
 ·intro h;rw [h]
@[simp] def Wc (a b:String):(Str.ofString a==Str.ofString b)=(a==b):=by
 rw [Bool.eq_iff_iff];simp
def B5 (n:Nat):bB ga g (n+1) env st=(ga env st).bind λc aa=>if c=true then (g env aa).bind λfl aK=>match fl with
   | .nx e=>bB ga g n e aK
   | .ct e=>bB ga g n e aK
   | .bk e=>.ok (.nx e) aK
   | .rt v=>.ok (.rt v) aK
  else .ok (.nx env) aa:=rfl
@[simp] def MR:lim=1000000:=(rfl)
@[simp] def Wd (f:Str) (i:Str->Bool) (x:PV) (n:Nat):Mi.putAt f i x (.ref n) st=yS st n λc ks xs=>if i c=true/\ks.length<1000 then .ok () (st.set n (.ins c (putK f x ks xs).1 (putK f x ks xs).2)) else .stuck:=(rfl)
end
section
variable {K:Frag}{mg:Ab}{h:Heap}{x:Str}{f C:Addr}{oc:Value}{od an:Option Addr}{dZ:Array (Option Value)}{kV doc pm aW ct:Value}{sm:Stmt}{ps:Ad}
def zey (X:K.In h) (G:h.Ns mainGlobals mg) (a:nsIn K mainGlobals x=some (some (.ref f))) (l:K.lookup f=some ⟨oc,od,.func (fnOf x x (jW sm) (jf sm) (zE sm) .none kV doc pm an aW ct),dZ⟩) (c:codeIn K aW x=true) (k:keepIn K (.ref f)=true)
  (b:∀(kV doc pm:Value) (an:Option Addr) (aW ct:Value) (us:Af),us.length=ps.length->bindArgs (fnOf x x (jW sm) (jf sm) (zE sm) .none kV doc pm an aW ct) ⟨us,[]⟩=pure (ps.zip us)):FnF K mg x sm ps :=
 ⟨f,_,mg_of X G a,hV l c k,(hV l c k).binds b⟩
def zbo {c name qual:Str} (X:K.In h) (G:h.Ns mainGlobals mg) (aC:nsIn K mainGlobals c=some (some (.ref C))) (pg:plainGet K C Str.empty=true) (hd:hasDictIn K C=true) (po:plainOver K C=true) (sa:findIn K (.ref C) "__setattr__" = some (some (.builtin "object.__setattr__")))
  (a:findIn K (.ref C) name=some (some (.ref f))) (i:isFn K (.ref f)=true) (l:K.lookup f=some ⟨oc,od,.func (fnOf name qual (jW sm) (jf sm) (zE sm) .none kV doc pm an aW ct),dZ⟩) (cd:codeIn K aW qual=true) (k:keepIn K (.ref f)=true)
  (b:∀(kV doc pm:Value) (an:Option Addr) (aW ct:Value) (us:Af),us.length=ps.length->bindArgs (fnOf name qual (jW sm) (jf sm) (zE sm) .none kV doc pm an aW ct) ⟨us,[]⟩=pure (ps.zip us)):MtF K mg c name qual sm ps :=
 ⟨C,f,_,mg_of X G aC,⟨pg,hd,po,sa⟩,⟨a,i,k⟩,hV l cd k,(hV l cd k).binds b⟩
def zez {c qual:Str}(X:K.In h) (G:h.Ns mainGlobals mg) (aC:nsIn K mainGlobals c=some (some (.ref C))) (mk:makesIn K C=true) (kc:keepIn K (.ref C)=true)
  (a:findIn K (.ref C) "__init__" = some (some (.ref f))) (i:isFn K (.ref f)=true) (l:K.lookup f=some ⟨oc,od,.func (fnOf "__init__" qual (jW sm) (jf sm) (zE sm) .none kV doc pm an aW ct),dZ⟩) (cd:codeIn K aW qual=true) (k:keepIn K (.ref f)=true)
  (b:∀(kV doc pm:Value) (an:Option Addr) (aW ct:Value) (us:Af),us.length=ps.length->bindArgs (fnOf "__init__" qual (jW sm) (jf sm) (zE sm) .none kV doc pm an aW ct) ⟨us,[]⟩=pure (ps.zip us)):NwF K mg c qual sm ps :=
 ⟨C,f,_,mg_of X G aC,⟨mk,a,i,kc⟩,hV l cd k,(hV l cd k).binds b⟩
def MU {cd:ClassData}(h:clsIn K C=some cd) (v:b8 cd.mro=true):eB K C=true:=by unfold eB;rw [h];exact v
def zpQ {c fld qual:Str}{B N:Addr}{nm q:Str}{bs:Af}{b9:Bool}{sn:Ad}{sub:Af}{ab:Bool}{col:Option Bool}{dd:Option Addr}{k0 k1 k2 k3 k5:Option Value}{cc:Value}{d:Option Addr}{es:Array DictEntry}{n:Nat}{sl:Array (Option Value)}{B7:ClassData}
  (X:K.In h) (G:h.Ns mainGlobals mg) (aC:nsIn K mainGlobals c=some (some (.ref C)))
  (hC:K.lookup C=some (excClassObj nm q C N bs (.ref B::cS) b9 sn sub ab col dd k0 k1 k2 k3 k5 "ValueError.__new__")) (hB:excIn K B cS "ValueError.__new__" = true)
  (hN:K.lookup N=some ⟨cc,d,.dict es n,sl⟩) (he:(es.all λe=>match e.key with | .str _ _=>true|_=>false)=true) (hi:nsIn K N "__init__" = some (some (.ref f))) (fn:isFn K (.ref f)=true) (kp:keepIn K (.ref C)=true)
  (sa:findIn K (.ref C) "__setattr__" = some (some (.builtin "object.__setattr__"))) (hcl:clsIn K C=some B7) (hl:b8 B7.mro=true) (no:takerIn K C fld=some none) (MV:hasDictIn K C=true)
  (l:K.lookup f=some ⟨oc,od,.func (fnOf "__init__" qual (jW sm) (jf sm) (zE sm) .none kV doc pm an aW ct),dZ⟩) (B8:codeIn K aW qual=true) (k:keepIn K (.ref f)=true)
  (b:∀(kV doc pm:Value) (an:Option Addr) (aW ct:Value) (us:Af),us.length=[("self" : Str),fld].length->bindArgs (fnOf "__init__" qual (jW sm) (jf sm) (zE sm) .none kV doc pm an aW ct) ⟨us,[]⟩=pure ([("self" : Str),fld].zip us)):XnF K mg c fld qual sm :=
 ⟨C,f,_,mg_of X G aC,eD.mk' hC hB hN he hi fn kp,⟨sa,MU hcl hl,no,MV⟩,hV l B8 k,(hV l B8 k).binds b⟩
def yN {c fld:Str} (X:K.In h) (G:h.Ns mainGlobals mg) (aC:nsIn K mainGlobals c=some (some (.ref C))) (pg:plainGet K C Str.empty=true) (hd:hasDictIn K C=true) (po:plainOver K C=true) (sa:findIn K (.ref C) "__setattr__" = some (some (.builtin "object.__setattr__"))) (na:findIn K (.ref C) fld=some none) :
  ∃C,mg c=some (.ref C)/\dY K C/\cN K C fld:=⟨C,mg_of X G aC,⟨pg,hd,po,sa⟩,na⟩
def wM {c fld:Str} (X:K.In h) (G:h.Ns mainGlobals mg) (aC:nsIn K mainGlobals c=some (some (.ref C))) (ga:findIn K (.ref C) "__getattribute__" = some (some (.builtin "BaseException.__getattribute__"))) (hk:findIn K (.ref C) "__getattr__" = some none) (hB:mroIn K C (.type "BaseException")=some true)
  (hd:hasDictIn K C=true) (no:findIn K (.ref C) fld=some none):∃C,mg c=some (.ref C)/\fM K C/\hasDictIn K C=true/\findIn K (.ref C) fld=some none:=⟨C,mg_of X G aC,⟨ga,hk,hB⟩,hd,no⟩
def zpR {α:Type}{P:α->Prop}:∀p∈([]:List α),P p:=λ_ h=>nomatch h
def all_cons {α:Type}{P:α->Prop}{a:α}{l:List α}(h:P a) (t:∀p∈l,P p):∀p∈a::l,P p:=λp hp=>by
 rcases yL.mp hp with rfl|hp
 ·exact h
 ·exact t p hp
def B9 {α β:Type} [BEq α] [LawfulBEq α] {a:α}{b:β}:∀{l:List (α×β)},l.lookup a=some b->(a,b)∈l
 | [],h=>by simp at h
 | (c,d)::l,h=>by
  rw [yE] at h
  split at h
  ·rename_i e;cases h;rw [eq_of_beq e];simp
  ·exact jh _ (B9 h)
def zbp {O t t2:Addr} {wd k1 k2 y:Str} {u1 u2:Tok} {n n2:Nat} {uu:Option Addr} {sl fB:Array (Option Value)} (X:K.In h) (G:h.Ns mainGlobals mg) (e:nsIn K O wd=some (some (.ref t))) (l1:K.lookup t=some ⟨.type "tuple", od,.seq #[.ref t2,.ref f] n,sl⟩)
  (l2:K.lookup t2=some ⟨.type "tuple", uu,.seq #[.str k1 u1,.str k2 u2] n2,fB⟩) (a:nsIn K mainGlobals y=some (some (.ref f))):∃u v,nsIn K O wd=some (some u)/\RelV v u/\∀ρ H,R K mg ρ H (.tup [.tup [.str k1,.str k2],.fn y]) v:=by
 refine ⟨_,.ref t,e,rfl,qm (xs:=[.tup [.str k1,.str k2],.fn y]) (vs:=[.ref t2,.ref f]) l1 rfl (by simp) (.cons rfl (.cons rfl .nil)) fun ρ H=>?_⟩
 exact ⟨_,_,rfl,qm (xs:=[.str k1,.str k2]) (vs:=[.str k1,.str k2]) l2 rfl (by simp) (.cons ⟨_,rfl⟩ (.cons ⟨_,rfl⟩ .nil)) (fun ρ H=>⟨_,_,rfl,rfl,_,_,rfl,rfl,rfl⟩) ρ H,_,_,rfl,⟨f,rfl,mg_of X G a⟩,rfl⟩
def zpS {O t t2:Addr} {wd k1 y:Str} {u1:Tok} {n n2:Nat} {uu:Option Addr} {sl fB:Array (Option Value)} (X:K.In h) (G:h.Ns mainGlobals mg) (e:nsIn K O wd=some (some (.ref t))) (l1:K.lookup t=some ⟨.type "tuple", od,.seq #[.ref t2,.ref f] n,sl⟩)
  (l2:K.lookup t2=some ⟨.type "tuple", uu,.seq #[.str k1 u1] n2,fB⟩) (a:nsIn K mainGlobals y=some (some (.ref f))):∃u v,nsIn K O wd=some (some u)/\RelV v u/\∀ρ H,R K mg ρ H (.tup [.tup [.str k1],.fn y]) v:=by
 refine ⟨_,.ref t,e,rfl,qm (xs:=[.tup [.str k1],.fn y]) (vs:=[.ref t2,.ref f]) l1 rfl (by simp) (.cons rfl (.cons rfl .nil)) fun ρ H=>?_⟩
 exact ⟨_,_,rfl,qm (xs:=[.str k1]) (vs:=[.str k1]) l2 rfl (by simp) (.cons ⟨_,rfl⟩ .nil) (fun ρ H=>⟨_,_,rfl,rfl,rfl⟩) ρ H,_,_,rfl,⟨f,rfl,mg_of X G a⟩,rfl⟩
def zpT {w:World} {name:Str} {O:Addr} {es:Array DictEntry} {n:Nat} {ks:Ad} {qs:An} (X:K.In h) (G:h.Ns mainGlobals mg) (aO:nsIn K mainGlobals name=some (some (.ref O))) (lO:K.lookup O=some ⟨.type "dict", none,.dict es n,#[]⟩) (hk:KeysLit w.params es.toList) (no:(O==sysModules)=false)
  (hi:∀p∈ks.zip qs,∃u v,nsIn K O p.1=some (some u)/\RelV v u/\∀ρ H,R K mg ρ H p.2 v):∀Y:Cx,Y.K=K->Y.mg=mg->Y.w=w->KdF Y name ks qs false:=λY e1 e2 e3=>by
 refine ⟨O,by rw [e2];exact mg_of X G aO,⟨⟨es,n,by rw [e1];exact lO,by rw [e3];exact hk⟩,no⟩,λz q hz=>?_,λz=>nomatch z⟩
 rw [e1,e2]
 exact hi _ (B9 hz)
end
def zpU {P:Program}{w:World}{K:Frag}{mg:Ab}{x y:Str}{sm:Stmt}{fa:Addr}{k:Nat}{m:Al}(h:FnF K mg x sm [y]) (hmg:mg x=some (.ref fa))
  (hb:∀(kV doc pm:Value) (an:Option Addr) (aW ct:Value) (u:Value),bindArgs (fnOf x x (jW sm) (jf sm) (zE sm) .none kV doc pm an aW ct) ⟨[u],[]⟩=pure [(y,u)])
  (hok:∀(f:Addr) (fd:FuncData),dk K x x sm f fd->∀base:Heap,a_ P w K mg base (bV P w) k f fd [y] (gd K mg m)) (hp:∀ns:List Int,ns.length<=63->∃st,m [.frl (ns.map PV.int)] []=.ok (.bl true) st) :
  ∃fd:FuncData,(∀(s:Shared) (u:Value),BindsTo s fd ⟨[u],[]⟩ [(y,u)])/\∀base:Heap,K.In base->base.Ns mainGlobals mg->a_ P w K mg base (bV P w) k fa fd [y] (gK K):=by
 obtain ⟨f,fd,hm,F,_⟩:=h
 rw [hmg] at hm
 cases hm
 refine ⟨fd,λs u=>?_,λbase _ _=>Mb (hok fa fd F base) hp⟩
 obtain ⟨oc,od,kV,doc,pm,an,aW,ct,dZ,rfl,_⟩:=F.ex
 exact .of_eq (hb kV doc pm an aW ct u)
def zhO {K:Frag}{mg:Ab}{h:Heap}{x:Str}{i:Int}{t:Tok}(X:K.In h) (G:h.Ns mainGlobals mg) (a:nsIn K mainGlobals x=some (some (.int i t))):∃t,mg x=some (.int i t):=⟨t,mg_of X G a⟩
def zpV {K:Frag}{mg:Ab}{h:Heap}{x:Str}(X:K.In h) (G:h.Ns mainGlobals mg) (a:nsIn K mainGlobals x=some none):mg x=none:=mg_none_of X G a
section
variable {X:Cx}{Er:XK}{K:Frag}{mg:Ab}{a b c e o:Expr}{es:List Expr}{pos p apos pos':Pos}{fa fb fc fo:Ai}{fs:Ah}
abbrev kz (ks:Ad) (vs:List V):List (Key×V):=(ks.map Sum.inr).zip vs
def qq {z:Str}:∀{ks:Ad}{vs:List V},cG (kz ks vs) (Sum.inr z)=(ks.zip vs).lookup z
 | [],_=>by simp [kz,cG]
 | k::ks,[]=>by simp [kz,cG]
 | k::ks,v::vs=>by
  have ih:=qq (z:=z) (ks:=ks) (vs:=vs)
  by_cases h:k=z
  ·subst h
   rw [show kz (k::ks) (v::vs)=(Sum.inr k,v)::kz ks vs from rfl,pQ rfl]
   simp [yE]
  ·rw [show kz (k::ks) (v::vs)=(Sum.inr k,v)::kz ks vs from rfl,pR (by simpa using h),ih]
   have:(z==k)=false:=by simpa using λq=>h q.symm
   simp [yE,this]
def B_ {z:Str}:∀{ks:Ad}{vs:List V},ks.length=vs.length->((kz ks vs).any λkv=>decide (kv.1=Sum.inr z))=ks.contains z
 | [],_,_=>by simp [kz]
 | k::ks,[],h=>by simp at h
 | k::ks,v::vs,h=>by
  have ih:=B_ (z:=z) (ks:=ks) (vs:=vs) (by simpa using h)
  rw [show kz (k::ks) (v::vs)=(Sum.inr k,v)::kz ks vs from rfl,List.any_cons,ih,List.contains_cons]
  congr 1
  by_cases hz:k=z
  ·subst hz;simp
  ·have:(z==k)=false:=by simpa using λq=>hz q.symm
   simp [hz,this]
def repl {α:Type}(z:Str) (x:α):List Str->List α->List α
 | k::ks,y::ys=>(if k=z then x else y)::repl z x ks ys
 | _,ys=>ys
def jx (z:Str) (x:PV) (ks:Ad) (xs:An):List Str×List PV:=if ks.contains z=true then (ks,repl z x ks xs) else (ks++[z],xs++[x])
def Ca {z:Str}{v:V}:∀{ks:Ad}{vs:List V},(kz ks vs).map (λkv=>if kv.1=Sum.inr z then (kv.1,v) else kv)=kz ks (repl z v ks vs)
 | [],_=>by simp [kz]
 | k::ks,[]=>by simp [kz,repl]
 | k::ks,w::vs=>by
  rw [show kz (k::ks) (w::vs)=(Sum.inr k,w)::kz ks vs from rfl,jB,Ca,show repl z v (k::ks) (w::vs)=(if k=z then v else w)::repl z v ks vs from rfl,show ∀u us,kz (k::ks) (u::us)=(Sum.inr k,u)::kz ks us from λ_ _=>rfl]
  by_cases h:k=z
  ·subst h;simp
  ·rw [zF (by simpa using h),zF h]
def Cb {ρ:Ae}{H:Hp}{z:Str}{x:PV}{v:V}(r:R K mg ρ H x v):∀{ks:Ad}{xs:An}{vs:List V},Rs K mg ρ H xs vs->Rs K mg ρ H (repl z x ks xs) (repl z v ks vs)
 | [],xs,vs,h=>by cases xs<;>cases vs<;>exact h
 | k::ks,[],vs,h=>by cases h;exact rfl
 | k::ks,y::ys,vs,h=>by
  obtain ⟨w,ws,rfl,h1,h2⟩:=h
  refine ⟨_,_,rfl,?_,Cb r h2⟩
  split
  ·exact r
  ·exact h1
def Cc {α:Type}{z:Str}{x:α}:∀{ks:Ad}{xs:List α},(repl z x ks xs).length=xs.length
 | [],xs=>by cases xs<;>rfl
 | k::ks,[]=>rfl
 | k::ks,y::ys=>by simp [repl,Cc (ks:=ks)]
def Cd {ρ:Ae}{H:Hp}{z:Str}{x:PV}{v:V}(r:R K mg ρ H x v) {ks:Ad}{xs:An}{vs:List V}(hl:ks.length=vs.length) (h:Rs K mg ρ H xs vs):∃ws,L2.putK (kz ks vs) (Sum.inr z) v=kz (jx z x ks xs).1 ws/\Rs K mg ρ H (jx z x ks xs).2 ws/\(jx z x ks xs).1.length=ws.length:=by
 unfold L2.putK jx
 rw [B_ hl]
 by_cases hc:ks.contains z=true
 ·rw [zA hc,zA hc]
  exact ⟨repl z v ks vs,Ca,Cb r h,by rw [Cc];exact hl⟩
 ·rw [zF hc,zF hc]
  refine ⟨vs++[v],?_,h.append ⟨v,[],rfl,r,rfl⟩,by simp [hl]⟩
  show _=(List.map Sum.inr (ks++[z])).zip (vs++[v])
  rw [lD,List.zip_append (by simpa using hl)]
  rfl
def jH:Ai:=λ_ st=>.ok (.ref st.length) (st++[.dic [] []])
def jT:ME X Er (.Dict [] [] pos) jH:=PE.weak JG fun σ H Q ⟨env,st,ρ,re,rs,h⟩=>λq hq =>
 h (ρ++[q]) _ (Ext.push hq) (rs.push hq ⟨[],yC,rfl,rfl⟩) _ ⟨q,rfl,by rw [<-rs.len];simp⟩
def MY:Am
 | .ref n,.str z,st=>y9 st n λks xs=>bA ((ks.zip xs).lookup z) st
 | _,_,_=>.stuck
def zn:Am
 | .ref n,.str z,st=>MY (.ref n) (.str z) st
 | x,y,st=>tT x y st
def MZ:R2:=λx y H Q=>∃a v,x=.ref a/\cQ H a y (some v)/\Q v H
def Ce (hu:X.A.units+1<cLine):eQ X MZ:=by
 intro value slice pins s σ H x y v u Q I rx ry h hs
 obtain ⟨a,w,rfl,g,q⟩:=h
 obtain rfl:v=Value.ref a:=rx
 exact PyProof.Rows.tail_any (JC I g) PySem.F.slot_dict_getitem.lookup (Jx hu I g ry λw' s' I' rw'=>⟨w,H,I',rw',q⟩) hs
def R.refD {ρ:Ae}{H:Hp}{st:ae}{n:Nat}{ks:Ad}{xs:An}{v:V}(s:a0 K mg ρ H st) (r:R K mg ρ H (.ref n) v) (h:st[n]?=some (.dic ks xs)):∃a vs,v=.ref a/\ρ[n]?=some a/\H a=some (.dK (kz ks vs))/\Rs K mg ρ H xs vs/\ks.length=vs.length:=by
 obtain ⟨a,rfl,ha⟩:=r
 obtain ⟨vs,h1,h2,h3⟩:=s.addr h ha
 exact ⟨a,vs,rfl,ha,h1,h2,h3⟩
def uv {H:Hp}{a:Addr}{ks:Ad}{vs:List V}{z:Str}(h:H a=some (.dK (kz ks vs))):cQ H a (.str z) ((ks.zip vs).lookup z):=by
 have g:=cQ.k (k:=Sum.inr z) h
 rw [qq] at g
 exact g
def zC (hu:X.A.units+200<cLine):lj X zn:=by
 obtain ⟨r,h1,h2⟩:=Lb (X:=X)
 refine ⟨_,h1.or (Ce (by omega)),fun ρ H st x y v w Q E s rx ry h=>?_⟩
 by_cases hx:∃n z,x=.ref n/\y=.str z
 ·obtain ⟨n,z,rfl,rfl⟩:=hx
  obtain ⟨ks,xs,e,h⟩:=tO (show Out X.K X.mg ρ H (y9 st n λks xs=>bA ((ks.zip xs).lookup z) st) (gV X.K X.mg Q) E from h)
  obtain ⟨q,hq,h⟩:=wY h
  obtain ⟨a,vs,rfl,_,k1,k2,_⟩:=R.refD s rx e
  cases ry
  obtain ⟨v,hv,rv⟩:=iq k2 hq
  refine .inr ⟨a,v,rfl,?_,h.now s _ rv⟩
  have g:=uv (z:=z) k1
  rw [hv] at g
  exact g
 ·refine .inl (h2 ρ H st x y v w Q E s rx ry ?_)
  have:zn x y st=tT x y st:=by
   unfold zn
   split
   ·rename_i n z;exact absurd ⟨n,z,rfl,rfl⟩ hx
   ·rfl
  rw [this] at h
  exact h
def kH (z x:PV):PV->Mo Unit
 | .ref n,st=>match z with
  | .str z=>y9 st n λks xs=>if ks.length<lim then .ok () (st.set n (.dic (jx z x ks xs).1 (jx z x ks xs).2)) else .stuck
  | _=>.stuck
 | _,_=>.stuck
def yT (fo fi fv:Ai):Aj:=λenv st=>(fv env st).bind λx aa=>(fo env aa).bind λo aK=>(fi env aK).bind λz aX=>(kH z x o aX).bind λ_ eU=>.ok (.nx env) eU
def jZ {i value:Expr}{fi fv:Ai}(hu:X.A.units+200<cLine) (ho:ME X Er o fo) (hi:ME X Er i fi) (hv:ME X Er value fv) (hs:swapsWith value (some (.Subscript o i pos')) pos.line X.env=pure false:=by rfl):MS X Er (.Assign [.Subscript o i pos'] value pos) (yT fo fi fv) :=
 PS.weak (JE (by omega) ho hi hv hs) λD σ H ⟨env,st,ρ,re,rs,h⟩=>⟨env,st,ρ,re,rs,h.then λag H1 x aa e1 s1 h1 v rv=>⟨env,aa,ag,re.ext e1,s1,h1.then λao H2 y aK e2 s2 h2 w rw=>⟨env,aK,ao,(re.ext e1).ext e2,s2,h2.then λal H3 zz aX e3 s3 h3 u ru=>by
  cases y with
  | ref n =>
   cases zz with
   | str z =>
    cases hn:aX[n]? with
    | none=>simp only [kH,y9,hn] at h3;exact h3.elim
    | some so =>
     cases so with
     | lst _=>simp only [kH,y9,hn] at h3;exact h3.elim
     | ins _ _ _=>simp only [kH,y9,hn] at h3;exact h3.elim
     | fdi _ _=>simp only [kH,y9,hn] at h3;exact h3.elim
     | dit _ _=>simp only [kH,y9,hn] at h3;exact h3.elim
     | dic ks xs =>
      simp only [kH,y9,hn] at h3
      by_cases hc:ks.length<lim
      ·rw [zA hc] at h3
       obtain ⟨a,vs,e4,ha,k1,k2,k3⟩:=R.refD s3 (R.ext e3 _ rw) hn
       subst e4
       cases ru
       obtain ⟨ws,q1,q2,q3⟩:=Cd (z:=z) (R.ext e3 x (R.ext e2 x rv)) k3 k2
       have hlen:(kz ks vs).length<sizeLine:=by
        have:(kz ks vs).length=ks.length:=by simp [kz,k3]
        rw [this,sizeLine_eq]
        have:ks.length<1000000:=hc
        omega
       have g:=fG.k (k:=Sum.inr z) (v:=v) k1 hlen
       have ew:Ext al H3 al (upd H3 a (.dK (L2.putK (kz ks vs) (Sum.inr z) v))):=Ext.write k1 rfl
       refine ⟨a,_,rfl,g,h3 al _ ew (s3.write ha ew ⟨ws,by rw [yC,q1],Rs.ext ew _ q2,q3⟩) σ ((((re.ext e1).ext e2).ext e3).ext ew)⟩
      ·rw [zF hc] at h3;exact h3.elim
   | _=>exact h3.elim
  | _=>exact h3.elim⟩⟩⟩
end
open Classical in
noncomputable def c5 (K:Frag) (mg:Ab) (ρ:Ae) (H:Hp) (ys:An) (x:PV) (u:Value):Bool:=decide (∃y v,y∈ys/\R K mg ρ H y v/\RelV v u/\bo y x=true)
section
variable {X:Cx}{Er:XK}{K:Frag}{mg:Ab}{ρ:Ae}{pins:Ac}{σ:L2.St}{H:Hp}{s:Shared}
def okIn (x:PV) (ys:An):Prop:=Mi.plain x=true/\bL ys=true/\dB ys<=150
instance (x:PV) (ys:An):Decidable (okIn x ys):=by unfold okIn;infer_instance
def Rs.mem:∀{xs:An}{vs:List V}{us:Af}{u:Value},Rs K mg ρ H xs vs->Vals vs us->u∈us->∃y v,y∈xs/\R K mg ρ H y v/\RelV v u
 | [],_,_,_,h,hv,hu=>by cases h;cases hv;cases hu
 | x::xs,_,_,u,h,hv,hu=>by
  obtain ⟨v,r,rfl,h1,h2⟩:=h
  cases hv with
  | cons r1 r2 =>
   rcases yL.mp hu with rfl|hu
   ·exact ⟨x,v,by simp,h1,r1⟩
   ·obtain ⟨y,w,q1,q2,q3⟩:=Rs.mem h2 r2 hu
    exact ⟨y,w,by simp [q1],q2,q3⟩
def Rs.mem':∀{xs:An}{vs:List V}{us:Af}{y:PV},Rs K mg ρ H xs vs->Vals vs us->y∈xs->∃u v,u∈us/\R K mg ρ H y v/\RelV v u
 | [],_,_,_,_,_,hy=>by cases hy
 | x::xs,_,_,y,h,hv,hy=>by
  obtain ⟨v,r,rfl,h1,h2⟩:=h
  cases hv with
  | cons r1 r2 =>
   rcases yL.mp hy with rfl|hy
   ·exact ⟨_,v,by simp,h1,r1⟩
   ·obtain ⟨u,w,q1,q2,q3⟩:=Rs.mem' h2 r2 hy
    exact ⟨u,w,by simp [q1],q2,q3⟩
def M0 {ys:An}{y:PV}(h:bL ys=true) (hy:y∈ys):Mi.plain y=true:=by
 obtain ⟨i,hi⟩:=List.getElem?_of_mem hy
 exact qe h hi
def M4 {ys:An}{y:PV}(hy:y∈ys):dep y<=dB ys:=by
 obtain ⟨i,hi⟩:=List.getElem?_of_mem hy
 exact tU hi
open Classical in
def qr (I:Inv X pins σ H s) {A:Around}(hu:A.units+200<cLine) {ys:An}{vs:List V}{us:Af}{x:PV}{w:V}{v:Value}(ok:okIn x ys) (ry:Rs X.K mg ρ H ys vs) (rv:Vals vs us) (rx:R X.K mg ρ H x w) (rw:RelV w v) :
  (∀u∈us,SeqAt.EqAt A.in1 s u v (c5 X.K mg ρ H ys x u))/\us.any (c5 X.K mg ρ H ys x)=ys.any λy=>bo y x:=by
 obtain ⟨px,py,hd⟩:=ok
 have one:∀y v' u,y∈ys->R X.K mg ρ H y v'->RelV v' u->SeqAt.EqAt A.in1 s u v (bo y x):=λy v' u hy r1 r2 =>
  (tV I 150 y x A.in1 (y8 (M4 hy) hd) (M0 py hy) px r1 rx r2 rw (by rw [qf];omega)).1
 refine ⟨λu Cf=>?_,?_⟩
 ·obtain ⟨y,v',q1,q2,q3⟩:=Rs.mem ry rv Cf
  by_cases h:∃y v,y∈ys/\R X.K mg ρ H y v/\RelV v u/\bo y x=true
  ·have e:c5 X.K mg ρ H ys x u=true:=by simpa [c5] using h
   obtain ⟨y2,v2,z1,z2,z3,z4⟩:=h
   rw [e,<-z4]
   exact one y2 v2 u z1 z2 z3
  ·have e:c5 X.K mg ρ H ys x u=false:=by unfold c5;exact jn h
   rw [e]
   have:bo y x=false:=by
    cases hq:bo y x with
    | false=>rfl
    | true=>exact absurd ⟨y,v',q1,q2,q3,hq⟩ h
   rw [<-this]
   exact one y v' u q1 q2 q3
 ·rw [Bool.eq_iff_iff]
  simp only [List.any_eq_true]
  constructor
  ·rintro ⟨u,Cf,he⟩
   have h:∃y v,y∈ys/\R X.K mg ρ H y v/\RelV v u/\bo y x=true:=by unfold c5 at he;exact of_decide_eq_true he
   obtain ⟨y,v',z1,_,_,z4⟩:=h
   exact ⟨y,z1,z4⟩
  ·rintro ⟨y,hy,he⟩
   obtain ⟨u,v',q1,q2,q3⟩:=Rs.mem' ry rv hy
   exact ⟨u,q1,by unfold c5;exact wm ⟨y,v',hy,q2,q3,he⟩⟩
def yG (neg:Bool):Am
 | x,.tup ys,st=>if okIn x ys then .ok (.bl (neg.xor (ys.any λy=>bo y x))) st else .stuck
 | x,.frl ys,st=>if okIn x ys then .ok (.bl (neg.xor (ys.any λy=>bo y x))) st else .stuck
 | x,.ref n,st=>match st[n]?,x with
  | some (.lst ys),x=>if okIn x ys then .ok (.bl (neg.xor (ys.any λy=>bo y x))) st else .stuck
  | some (.dic ks xs),.str z=>.ok (.bl (neg.xor ((ks.zip xs).lookup z).isSome)) st
  | _,_=>.stuck
 | .str ⟨⟨[c]⟩⟩,.str z,st=>.ok (.bl (neg.xor (decide (c∈z.cps.toList)))) st
 | _,_,_=>.stuck
def uw (K:Frag) (mg:Ab) (neg:Bool):R2:=λv w H Q =>
 (∃ρ x ys vs p,okIn x ys/\w=.ref p/\(a4 K H p vs\/ba K H p vs)/\Rs K mg ρ H ys vs/\R K mg ρ H x v/\Q (.bl (neg.xor (ys.any λy=>bo y x))) H) \/
 (∃p o,w=.ref p/\cQ H p v o/\Q (.bl (neg.xor o.isSome)) H)\/∃(c:Nat) (z:Str),v=.str ⟨#[c]⟩/\w=.str z/\Q (.bl (neg.xor (decide (c∈z.cps.toList)))) H
def M5 (hu:X.A.units+200<cLine):bg X (compareOp .In) (uw X.K X.mg false):=by
 intro pins s σ H x y v u Q I rx ry h
 rcases h with ⟨ρ,a,ys,vs,p,ok,rfl,hq,oi,ra,q⟩|⟨p,o,rfl,g,q⟩|⟨c,z,rfl,rfl,q⟩
 ·obtain rfl:u=Value.ref p:=ry
  rcases hq with hq|hq
  ·obtain ⟨its,r,pl,_⟩:=I.list hq
   obtain ⟨f1,f2⟩:=qr I hu ok oi r ra rx
   refine SeqAt.in_listAt (c5 X.K X.mg ρ H ys a) pl.isList (λw hw=>f1 w (by simpa using hw)) ⟨.bl _,H,I,rfl,?_⟩
   rw [show its.toArray.any (c5 X.K X.mg ρ H ys a)=its.any (c5 X.K X.mg ρ H ys a) by simp,f2]
   simpa using q
  ·obtain ⟨its,r,pl,_⟩:=I.tuple hq
   obtain ⟨f1,f2⟩:=qr I hu ok oi r ra rx
   refine SeqAt.in_tupleAt (c5 X.K X.mg ρ H ys a) pl (λw hw=>f1 w (by simpa using hw)) ⟨.bl _,H,I,rfl,?_⟩
   rw [show its.toArray.any (c5 X.K X.mg ρ H ys a)=its.any (c5 X.K X.mg ρ H ys a) by simp,f2]
   simpa using q
 ·obtain rfl:u=Value.ref p:=ry
  exact Jy (by omega) I g rx λs' I'=>⟨.bl o.isSome,H,I',rfl,by simpa using q⟩
 ·exact Jv pins s σ H _ _ v u Q I rx ry ⟨c,z,rfl,rfl,by simpa using q⟩
def M6 (hu:X.A.units+200<cLine):bg X (compareOp .NotIn) (uw X.K X.mg true):=by
 intro pins s σ H x y v u Q I rx ry h
 rcases h with ⟨ρ,a,ys,vs,p,ok,rfl,hq,oi,ra,q⟩|⟨p,o,rfl,g,q⟩|⟨c,z,rfl,rfl,q⟩
 ·obtain rfl:u=Value.ref p:=ry
  rcases hq with hq|hq
  ·obtain ⟨its,r,pl,_⟩:=I.list hq
   obtain ⟨f1,f2⟩:=qr I hu ok oi r ra rx
   refine SeqAt.notIn_listAt (c5 X.K X.mg ρ H ys a) pl.isList (λw hw=>f1 w (by simpa using hw)) ⟨.bl _,H,I,rfl,?_⟩
   rw [show its.toArray.any (c5 X.K X.mg ρ H ys a)=its.any (c5 X.K X.mg ρ H ys a) by simp,f2]
   simpa using q
  ·obtain ⟨its,r,pl,_⟩:=I.tuple hq
   obtain ⟨f1,f2⟩:=qr I hu ok oi r ra rx
   refine SeqAt.notIn_tupleAt (c5 X.K X.mg ρ H ys a) pl (λw hw=>f1 w (by simpa using hw)) ⟨.bl _,H,I,rfl,?_⟩
   rw [show its.toArray.any (c5 X.K X.mg ρ H ys a)=its.any (c5 X.K X.mg ρ H ys a) by simp,f2]
   simpa using q
 ·obtain rfl:u=Value.ref p:=ry
  exact Jz (by omega) I g rx λs' I'=>⟨.bl (!o.isSome),H,I',rfl,by simpa using q⟩
 ·refine L2.zm4 pins s σ H _ _ v u Q I rx ry ⟨_,_,rfl,rfl,?_⟩
  rw [StrLaws.found_one]
  simpa using q
def Cg {neg:Bool}:dJ K mg (uw K mg neg) (yG neg):=by
 intro ρ H st x y v w Q E s rx ry h
 cases y with
 | tup ys =>
  obtain ⟨p,vs,rfl,k1,k2⟩:=ry
  obtain ⟨ok,h⟩:=Out.ifp (show Out K mg ρ H (if okIn x ys then .ok (.bl (neg.xor (ys.any λy=>bo y x))) st else .stuck) (gV K mg Q) E from by cases x<;>exact h)
  exact .inl ⟨ρ,x,ys,vs,p,ok,rfl,.inr k1,k2,rx,h.now s _ rfl⟩
 | frl ys =>
  obtain ⟨p,vs,rfl,k1,k2⟩:=ry
  obtain ⟨ok,h⟩:=Out.ifp (show Out K mg ρ H (if okIn x ys then .ok (.bl (neg.xor (ys.any λy=>bo y x))) st else .stuck) (gV K mg Q) E from by cases x<;>exact h)
  exact .inl ⟨ρ,x,ys,vs,p,ok,rfl,.inl k1.sq,k2,rx,h.now s _ rfl⟩
 | ref n =>
  cases hn:st[n]? with
  | none=>exfalso;cases x<;>(simp only [yG,hn] at h;exact h)
  | some so =>
   cases so with
   | lst ys =>
    obtain ⟨p,vs,rfl,_,k1,k2⟩:=R.refL s ry hn
    obtain ⟨ok,h⟩:=Out.ifp (show Out K mg ρ H (if okIn x ys then .ok (.bl (neg.xor (ys.any λy=>bo y x))) st else .stuck) (gV K mg Q) E from by cases x<;>(simp only [yG,hn] at h;exact h))
    exact .inl ⟨ρ,x,ys,vs,p,ok,rfl,.inl (a4.of k1),k2,rx,h.now s _ rfl⟩
   | dic ks xs =>
    obtain ⟨p,vs,rfl,_,k1,k2,k3⟩:=R.refD s ry hn
    cases x with
    | str z =>
     simp only [yG,hn] at h
     cases rx
     refine .inr (.inl ⟨p,_,rfl,uv k1,?_⟩)
     have e:((ks.zip vs).lookup z).isSome=((ks.zip xs).lookup z).isSome:=by
      cases hq:(ks.zip xs).lookup z with
      | some q=>obtain ⟨v,hv,_⟩:=iq k2 hq;rw [hv];rfl
      | none =>
       have:z∉ks:=by
        intro hz
        obtain ⟨i,hi⟩:=List.getElem?_of_mem hz
        have hl:i<xs.length:=by rw [k2.len,<-k3];exact (yr.mp hi).1
        have:=List.lookup_eq_none_iff.mp hq (z,xs[i]) (List.mem_iff_getElem?.mpr ⟨i,by simp [List.getElem?_zip_eq_some,hi,hl]⟩)
        simp at this
       rw [nZ this];rfl
     rw [e]
     exact h.now s _ rfl
    | _=>simp only [yG,hn] at h;exact h.elim
   | ins c ks xs=>exfalso;cases x<;>(simp only [yG,hn] at h;exact h)
   | fdi ks xs=>exfalso;cases x<;>(simp only [yG,hn] at h;exact h)
   | dit ks xs=>exfalso;cases x<;>(simp only [yG,hn] at h;exact h)
 | str z =>
  cases x with
  | str q =>
   obtain ⟨⟨l⟩⟩:=q
   match l,rx,h with
   | [c],rx,h=>cases rx;cases ry;exact .inr (.inr ⟨c,z,rfl,rfl,Out.now (x:=PV.bl _) h s _ rfl⟩)
   | [],rx,h=>exact h.elim
   | _::_::_,rx,h=>exact h.elim
  | _=>exact h.elim
 | non=>exfalso;cases x<;>exact h
 | bl _=>exfalso;cases x<;>exact h
 | int _=>exfalso;cases x<;>exact h
 | ty _=>exfalso;cases x<;>exact h
 | fn _=>exfalso;cases x<;>exact h
 | kd _ _=>exfalso;cases x<;>exact h
 | exo _ _ _=>exfalso;cases x<;>exact h
def zc3 (hu:X.A.units+200<cLine):bC X .In (yG false):=⟨_,M5 hu,Cg⟩
def zeC (hu:X.A.units+200<cLine):bC X .NotIn (yG true):=⟨_,M6 hu,Cg⟩
end
section
variable {X:Cx}{Er:XK}{pos:Pos}
abbrev XN:XK:=λ_ _ _=>False
def Ci:j2 X XN:=λ_ _ _ _ _ _ _ _ _ q=>q.elim
def cj (fe:Ai) (env:zc):List PV->Al
 | [],ys,st=>.ok (.ref st.length) (st++[.lst ys])
 | x::xs,ys,st=>(br (fe (some x::env) st)).bind λy aa=>cj fe env xs (ys++[y]) aa
def d6 (fe:Ai) (env:zc) (n:Nat):Nat->Nat->Al
 | 0,_,_,_=>.stuck
 | m+1,i,ys,st=>yp st n λxs=>match xs[i]? with
  | none=>.ok (.ref st.length) (st++[.lst ys])
  | some x=>(br (fe (some x::env) st)).bind λy aa=>d6 fe env n m (i+1) (ys++[y]) aa
def fP (fe:Ai) (env:zc):Sq->Mo PV
 | .im xs,st=>if xs.length<=lim then cj fe env xs [] st else .stuck
 | .rf n,st=>d6 fe env n (lim+1) 0 [] st
def jg (src:zc->Mo Sq) (fe:Ai):Ai:=λenv st=>(src env st).bind λq aa=>fP fe env q aa
def Rs.snoc {K:Frag}{mg:Ab}{ρ:Ae}{H:Hp}{x:PV}{v:V}(r:R K mg ρ H x v):∀{xs:An}{vs:List V},Rs K mg ρ H xs vs->Rs K mg ρ H (xs++[x]) (vs++[v])
 | [],_,h=>by cases h;exact ⟨v,[],rfl,r,rfl⟩
 | y::xs,_,h=>by
  obtain ⟨w,q,rfl,h1,h2⟩:=h
  exact ⟨w,q++[v],rfl,h1,Rs.snoc r h2⟩
def Cj {elt iter:Expr} {x:Str} {px:Pos} {scope:Scope} {src:zc->Mo Sq} {fe:Ai} {M:Ad} (hc:X.calm=true) (S:cO X.env.scope scope x) (eN:Hid scope M X.N) (bY:((".0" : Str)::x::M).Nodup)
  (hi:MI X Er (.Name x px) iter src) (he:∀cl C af ai fp,ME (hW X M scope cl x C af ai fp (λ_ _=>False)) XN elt fe)
  (hs:∀v,foldedSetIterable iter X.env v=pure v:=by intro _;rfl):ME X Er (.ListComp elt [⟨.Name x px,iter,[],0⟩] scope pos) (jg src fe) :=
 PE.weak (Jr (te:=tM X.K X.mg XN fe) hc S eN bY hi (λcl C af ai fp=>he cl C af ai fp) hs) fun σ H Q ⟨env,st,ρ,re,rs,h⟩=>⟨env,st,ρ,re,rs,h.then λaq H0 q cK e0 s0 h0 J wk=>by
  cases q with
  | im xs =>
   obtain ⟨hl,h0⟩:=Out.ifp h0
   obtain ⟨w1,w2,w3⟩:=wk
   refine ⟨λi m ys H=>m=xs.length-i/\i<=xs.length/\ys.length=i/\∃ps st ρ,Rs X.K X.mg ρ H ps ys/\a0 X.K X.mg ρ H st/\Ext aq H0 ρ H/\Out X.K X.mg ρ H (cj fe env (xs.drop i) ps st) (gV X.K X.mg Q) Er,⟨xs.length,by simp,jk _,rfl,[],cK,aq,rfl,s0,Ext.refl,h0⟩,?_⟩
   rintro i m ys H ⟨rfl,hi,hy,ps,st,ρ,cM,rs,ex,h⟩
   by_cases a7:i<xs.length
   ·refine .inr ⟨w1 i ρ H ex a7,y4 (by omega),λv H' y=>?_⟩
    obtain ⟨x,hx,bK,s2,rx⟩:=w3 i ρ H st v H' ex rs a7 y
    have hd:xs.drop i=x::xs.drop (i+1):=by
     rw [jK a7]
     have:=(yr.mp hx).2
     rw [this]
    rw [hd] at h
    simp only [cj] at h
    refine ⟨some x::env,st,ρ,(re.ext (e0.trans (ex.trans bK))).cons rx,s2,j8 (Out.ext h bK) λal H3 y aX e3 s3 h3 v ry=>⟨xs.length-(i+1),by omega,rfl,a7,by simp [hy],ps++[y],aX,al,Rs.snoc ry (Rs.ext (bK.trans e3) ps cM),s3,(ex.trans bK).trans e3,h3⟩⟩
   ·have e:i=xs.length:=by omega
    subst e
    rw [List.drop_length] at h
    exact .inl ⟨w2 _ ρ H ex (ya _),y4 (by omega),λl hl=>Out.newList h rs cM hl⟩
  | rf n =>
   obtain ⟨a,ha,rfl⟩:=wk
   refine ⟨λi m ys H=>m+i=lim+1/\ys.length=i/\∃ps st ρ,Rs X.K X.mg ρ H ps ys/\a0 X.K X.mg ρ H st/\Ext aq H0 ρ H/\ρ[n]?=some a/\Out X.K X.mg ρ H (d6 fe env n m i ps st) (gV X.K X.mg Q) Er,⟨lim+1,rfl,rfl,[],cK,aq,rfl,s0,Ext.refl,ha,h0⟩,?_⟩
   rintro i m ys H ⟨hm,hy,ps,st,ρ,cM,rs,ex,ha,h⟩
   cases m with
   | zero=>exact h.elim
   | succ m =>
    obtain ⟨xs,hn,h⟩:=jm h
    obtain ⟨vs,hH,hR⟩:=rs.addr hn ha
    cases hx:xs[i]? with
    | none =>
     simp only [hx] at h
     have:vs.length<=i:=by rw [<-hR.len];exact iX.mp hx
     exact .inl ⟨⟨vs,a4.of hH,this⟩,y4 (by omega),λl hl=>Out.newList h rs cM hl⟩
    | some x =>
     simp only [hx] at h
     obtain ⟨v,hv,rv⟩:=hR.get hx
     refine .inr ⟨⟨vs,v,a4.of hH,hv⟩,y4 (by omega),λv' H' y=>?_⟩
     obtain ⟨e1,y⟩:=y
     subst e1
     have e2:=y vs (a4.of hH)
     rw [hv] at e2
     cases e2
     exact ⟨some x::env,st,ρ,(re.ext (e0.trans ex)).cons rv,rs,j8 h λal H3 y aX e3 s3 h3 v ry=>⟨m,jP m,by omega,by simp [hy],ps++[y],aX,al,Rs.snoc ry (Rs.ext e3 ps cM),s3,ex.trans e3,e3.get ha,h3⟩⟩⟩
def l9 {elt iter:Expr} {x:Str} {px:Pos} {scope:Scope} {src:zc->Mo Sq} {fe:Ai} {N:Ad} (hc:X.calm=true) (S:cO X.env.scope scope x) (eN:X.N=N) (bY:((".0" : Str)::x::N).Nodup)
  (hi:MI X Er (.Name x px) iter src) (he:∀cl C af ai fp,ME (AH X scope cl x C af ai fp (λ_ _=>False)) XN elt fe)
  (hs:∀v,foldedSetIterable iter X.env v=pure v:=by intro _;rfl):ME X Er (.ListComp elt [⟨.Name x px,iter,[],0⟩] scope pos) (jg src fe) :=
 Cj hc S Hid.refl (eN▸bY) hi he hs
end
section
variable {env:Env}{es:List Expr}{pos:Pos}
abbrev Ck (e:Expr) (es:List Expr) (env:Env):Prop:=starEach (e::es) env=(false,eval e env)::starEach es env
def M7 {c j}:Ck (.Constant c j pos) es env:=(rfl)
end
end Mi
namespace L2
open PySem PySem.Spec PyProof.Rows PySem.W
abbrev ZB (h:Heap) (z TI TO T:Addr) (f:Bool):Prop:=h.get? z=some { cls:=.type "zip", dict:=none,data:=.fields #[rawInt T,.bool f,.bool false,.ref TI,.ref TO],slots:=#[] }
section
variable {prog:Program}{w:World}{A:Around}{E:Aa}{s:Shared}{z TI TO T i1 i2 t1 t2:Addr}{k:Nat}{xs ys:Array Value}{x y a b:Value}{S1 S2:Nat->Heap->Prop}{f:Bool}{o:Obj}
end
structure ZS (z TI TO i1 i2 a b:Addr) (xs ys:Array Value) (k:Nat) (h:Heap):Prop where
 zi:(IsZip h z TI TO .none/\∃u v,IsPair h TO u v)\/∃T f o,ZB h z TI TO T f/\h.get? T=some o
 ti:IsPair h TI (.ref i1) (.ref i2)
 s1:nH i1 a xs k h
 s2:nH i2 b ys k h
section
variable {prog:Program}{w:World}{A:Around}{E:Aa}{s:Shared}{z TI TO i1 i2 a b:Addr}{k:Nat}{xs ys:Array Value}{x y:Value}
def ZS.type (st:ZS z TI TO i1 i2 a b xs ys k s.heap):s.TypeIs (.ref z) "zip" := by
 rcases st.zi with ⟨hz,_⟩|⟨T,f,o,hz,_⟩<;>exact ⟨_,hz,rfl⟩
end
def putAll (ps:List (Key×V)) (kvs:List (Key×V)):List (Key×V):=ps.foldl (λm p=>putK m p.1 p.2) kvs
structure Ap (d z TI TO i1 i2 a b:Addr):Prop where
 z:d≠z
 TI:d≠TI
 TO:d≠TO
 i1:d≠i1
 i2:d≠i2
 a:d≠a
 b:d≠b
section
variable {prog:Program}{w:World}{A:Around}{R:Result->Shared->Prop}{z TI TO i1 i2 a b d:Addr}{xs ys:Array Value}{keys:List Key}{vals:List V}
def ZS.keep {k:Nat}{h h':Heap}(st:ZS z TI TO i1 i2 a b xs ys k h) (P:Ap d z TI TO i1 i2 a b) (hs:Heap.SameBut d h h') (hd:∃o,h'.get? d=some o):ZS z TI TO i1 i2 a b xs ys k h':=by
 have up:∀c o,c≠d->h.get? c=some o->h'.get? c=some o:=λc o n e=>hs.extBut _ _ n e
 obtain ⟨⟨⟨o1,g1,r1⟩,⟨p1,e1,t1⟩⟩,⟨⟨o2,g2,r2⟩,⟨p2,e2,t2⟩⟩⟩:=And.intro st.s1 st.s2
 refine ⟨?_,up _ _ P.TI.symm st.ti,⟨⟨o1,up _ _ P.i1.symm g1,r1⟩,⟨p1,up _ _ P.a.symm e1,t1⟩⟩,⟨⟨o2,up _ _ P.i2.symm g2,r2⟩,⟨p2,up _ _ P.b.symm e2,t2⟩⟩⟩
 rcases st.zi with ⟨hz,u,v,dH⟩|⟨T,f,o,hz,hT⟩
 ·exact .inl ⟨up _ _ P.z.symm hz,u,v,up _ _ P.TO.symm dH⟩
 ·by_cases e:T=d
  ·obtain ⟨o',ho'⟩:=hd
   exact .inr ⟨T,f,o',up _ _ P.z.symm hz,by rw [e];exact ho'⟩
  ·exact .inr ⟨T,f,o,up _ _ P.z.symm hz,up _ _ e hT⟩
end
section
variable {prog:Program}{w:World}{A:Around}{E:Aa}{s:Shared}{z TI TO i1 i2 a b:Addr}{xs ys:Array Value}{keys:List Key}{vals:List V}
def ZS.push {k:Nat}{h h':Heap}(st:ZS z TI TO i1 i2 a b xs ys k h) (up:∀c o,h.get? c=some o->h'.get? c=some o):ZS z TI TO i1 i2 a b xs ys k h':=by
 obtain ⟨⟨⟨o1,g1,r1⟩,⟨p1,e1,t1⟩⟩,⟨⟨o2,g2,r2⟩,⟨p2,e2,t2⟩⟩⟩:=And.intro st.s1 st.s2
 refine ⟨?_,up _ _ st.ti,⟨⟨o1,up _ _ g1,r1⟩,⟨p1,up _ _ e1,t1⟩⟩,⟨⟨o2,up _ _ g2,r2⟩,⟨p2,up _ _ e2,t2⟩⟩⟩
 rcases st.zi with ⟨hz,u,v,dH⟩|⟨T,f,o,hz,hT⟩
 ·exact .inl ⟨up _ _ hz,u,v,up _ _ dH⟩
 ·exact .inr ⟨T,f,o,up _ _ hz,up _ _ hT⟩
end
end L2
namespace Mi
open PySem L2 PySem.W PySem.Spec
section
variable {X:Cx}{K:Frag}{mg:Ab}{Er:XK}{e o:Expr}{es:List Expr}{pos p apos:Pos}{k:Nat}{x:Str}{m:Al}{fs:Ah}{fo fa:Ai}
def ux (j:Nat):Fl->Mo Fl
 | .nx e,st=>.ok (.nx (e.set j none)) st
 | .rt x,st=>.ok (.rt x) st
 | _,_=>.stuck
end
section
variable {X:Cx}{K:Frag}{mg:Ab}{Er:XK}{e o:Expr}{es:List Expr}{pos p apos:Pos}{fs:Ah}{fo fa:Ai}
def strsOf:List PV->Option (Ad)
 | []=>some []
 | .str z::r=>(strsOf r).map (z::·)
 | _::_=>none
def l_:List (Str×PV)->List Str->List PV->List Str×List PV
 | [],ks,xs=>(ks,xs)
 | q::r,ks,xs=>l_ r (jx q.1 q.2 ks xs).1 (jx q.1 q.2 ks xs).2
def Cm {ρ:Ae}{H:Hp}:∀{xs:An}{zs:Ad}{vs:List V},strsOf xs=some zs->Rs K mg ρ H xs vs->vs=(zs.map Sum.inr:List Key).map kV
 | [],zs,vs,e,h=>by cases e;cases h;rfl
 | .str z::r,zs,vs,e,h=>by
  simp only [strsOf,Option.map_eq_some_iff] at e
  obtain ⟨zr,e1,rfl⟩:=e
  obtain ⟨v,r',rfl,h1,h2⟩:=h
  cases h1
  rw [Cm e1 h2]
  rfl
 | .non::_,_,_,e,_=>by cases e
 | .bl _::_,_,_,e,_=>by cases e
 | .int _::_,_,_,e,_=>by cases e
 | .ty _::_,_,_,e,_=>by cases e
 | .tup _::_,_,_,e,_=>by cases e
 | .frl _::_,_,_,e,_=>by cases e
 | .ref _::_,_,_,e,_=>by cases e
 | .fn _::_,_,_,e,_=>by cases e
 | .kd _ _::_,_,_,e,_=>by cases e
 | .exo _ _ _::_,_,_,e,_=>by cases e
def Cn {ρ:Ae}{H:Hp}:∀{zs:Ad}{ys:An}{us:List V}{ks:Ad}{xs:An}{vs:List V},Rs K mg ρ H ys us->Rs K mg ρ H xs vs->ks.length=vs.length ->
  ∃ws,putAll ((zs.map Sum.inr:List Key).zip us) (kz ks vs)=kz (l_ (zs.zip ys) ks xs).1 ws/\Rs K mg ρ H (l_ (zs.zip ys) ks xs).2 ws/\(l_ (zs.zip ys) ks xs).1.length=ws.length
 | [],ys,us,ks,xs,vs,_,h,hl=>⟨vs,rfl,h,hl⟩
 | z::zs,[],us,ks,xs,vs,hy,h,hl=>by
  cases hy
  exact ⟨vs,rfl,h,hl⟩
 | z::zs,y::ys,us,ks,xs,vs,hy,h,hl=>by
  obtain ⟨u,r,rfl,h1,h2⟩:=hy
  obtain ⟨ws,q1,q2,q3⟩:=Cd (z:=z) h1 hl h
  obtain ⟨M8,p1,p2,p3⟩:=Cn (zs:=zs) h2 q2 q3
  refine ⟨M8,?_,p2,p3⟩
  show putAll _ (L2.putK (kz ks vs) (Sum.inr z) u)=_
  rw [q1]
  exact p1
end
end Mi
namespace L2
open PySem PySem.Spec PyProof.Rows PySem.W
def Co (K:Frag) (a:Addr):It :=
 ⟨λi H=>∃xs x,a4 K H a xs/\xs[i]?=some x,
  λi H v H'=>∃T x,H T=none/\v=.ref T/\H'=upd H T (.tup [.int i,x])/\∀xs,a4 K H a xs->xs[i]?=some x,
  λi H=>∃xs,a4 K H a xs/\xs.length<=i⟩
def M9 (e it a:Addr) (k:Nat) (h:Heap):Prop:=(∃old,IsEnum h e it k old)/\h.IsListIter it a k
def M_ {X:Cx}{pins:Ac}{σ:St}{H:Hp}{s:Shared}{a c:Addr}{xs:List V}(I:Inv X pins σ H s) (hf:cD X pins H c) (hq:a4 X.K H a xs):a≠c:=by
 rintro rfl
 rcases hq with q|⟨o,its,n,hl,_⟩
 ·rcases q with q|⟨ob,q⟩<;>(rw [hf.1] at q;cases q)
 ·have e:=I.ok.mod.kin _ _ hl
  rcases hf.2.2.2.1 with z|z
  ·exact I.ok.noex _ _ e z
  ·exact absurd (je (yh (I.ok.bs _ _ e).1) z) (Nat.lt_irrefl _)
def Na {P:Program}{w:World}{K:Frag}{elts:List Expr}{kt:Nat}{pos:Pos}{e it a:Addr}(ne:e≠it):Turn P w K (.Tuple elts kt pos) (Co K a) [e,it] e (M9 e it a) where
 mem:=by simp
 obj:=λi h st c hc=>by
  obtain ⟨⟨old,he⟩,⟨o1,e1,_,d1⟩⟩:=st
  simp only [yL,List.not_mem_nil,wQ] at hc
  rcases hc with q|q<;>rw [q]
  ·exact ⟨_,he,λv z=>by cases z⟩
  ·exact ⟨_,e1,λv z=>by rw [d1] at z;cases z⟩
 keep:=λi h h' st k=>by
  obtain ⟨⟨old,he⟩,⟨o1,e1,r1⟩⟩:=st
  exact ⟨⟨old,k e (by simp) _ he⟩,⟨o1,k it (by simp) _ e1,r1⟩⟩
 item:=by
  intro X hP hw hK hc i pins s σ H E I hf st hg
  subst hP hw hK
  obtain ⟨xs,x,hq,hx⟩:=hg
  obtain ⟨⟨old,he⟩,hit⟩:=st
  obtain ⟨its,rv,p,hz⟩:=I.list hq
  obtain ⟨u,hu,ru⟩:=rv.get hx
  have n1:∀c∈[e,it],a≠c:=λc h=>M_ I (hf c h) hq
  refine wpAny_pyNext_enum_item he hit p.isList (x:=u) (by simpa using hu) ne λh1 eo oj pT hsz kk=>⟨_,rfl,?_⟩
  refine wpAny_letOwnedTupleGo_enum (s:={ s with heap:=h1,toks:=s.toks+1 }) eo λh2 e2 sb=>?_
  have fr:H s.heap.objs.size=none:=I.hok.fresh (ya _)
  have up:∀c o,c≠e->h1.get? c=some o->h2.get? c=some o:=λc o n q=>sb.extBut _ _ n q
  have nz:s.heap.objs.size≠e:=Nat.ne_of_gt (yh he)
  have k2:∀c o,c∉[e,it]->s.heap.get? c=some o->h2.get? c=some o:=λc o nc q=>up c o (λz=>nc (by simp [z])) (kk c o (λz=>nc (by simp [z])) (λz=>nc (by simp [z])) q)
  refine ⟨.ref s.heap.objs.size,upd H s.heap.objs.size (.tup [.int i,x]),?_,rfl,⟨s.heap.objs.size,x,fr,rfl,rfl,λys hy=>by rw [I.list_inj hy hq];exact hx⟩,?_,λc cw=>?_⟩
  ·exact Inv.turnN (s:=s) (h':=h2) (t':=s.toks+1) I hf k2 (ya _) ⟨show 2<=sizeLine by decide,[.int i s.toks,u],.cons ⟨_,rfl⟩ (.cons ru .nil),_,up _ _ nz pT,rfl,_,rfl⟩
  ·refine ⟨⟨u,by rw [show ((i+1:Nat):Int)=(i:Int)+1 from rfl];exact e2⟩,let ⟨o,q,r⟩:=oj;⟨o,up _ _ ne.symm q,r⟩⟩
  ·have lt:∃o,s.heap.get? c=some o:=by
    simp only [yL,List.not_mem_nil,wQ] at cw
    rcases cw with q|q<;>rw [q]
    ·exact ⟨_,he⟩
    ·exact let ⟨o,q,_⟩:=hit;⟨o,q⟩
   obtain ⟨o,q⟩:=lt
   have z:c≠s.heap.objs.size:=yD (yh q)
   rw [zM z]
   exact (hf c cw).1
 done:=by
  intro X hP hw hK hc i pins s σ H E I hf st hg
  subst hP hw hK
  obtain ⟨xs,hq,hx⟩:=hg
  obtain ⟨⟨old,he⟩,hit⟩:=st
  obtain ⟨its,rv,p,hz⟩:=I.list hq
  have hl:=rv.length
  refine wpAny_pyNext_enum_end (I.ok.hd hc) he hit p.isList (by simp;omega) λh' eb=>⟨rfl,?_⟩
  exact Inv.turnL (ch:=[e,it]) (t':=s.toks) I hf λc o nc q=>eb c o (λz=>nc (by simp [z])) q
 self:=λ_ _ _ _ _ st h=>by
  obtain ⟨⟨old,he⟩,_⟩:=st
  exact wpAny_pyIter_enum he h
def Cp:bootBuiltins "enumerate" = some (.type "enumerate"):=by decide +kernel
def Nb (K:Frag) (ta:TA):TI:=fun σ H R=>ta σ H λvs H1=>∃a,vs=[.ref a]/\(∃xs,a4 K H1 a xs)/\R (Co K a) H1
def Nc {X:Cx} {elts:List Expr} {kt:Nat} {tp:Pos} {x:Expr} {ta:TA} {p pos:Pos} (hg:Gl X "enumerate") (hm:X.mg "enumerate" = none) (ha:PA X [x] ta) (hs:starEach [x] X.env=[(false,eval x X.env)]:=by rfl) :
  PI X (.Tuple elts kt tp) (.Call (.Name "enumerate" p) [x] [] pos) (Nb X.K ta):=by
 intro pins s σ H R I h
 refine Call_ (wH I hg hm Cp (PyProof.Rows.callWith_type1 (aS (ha pos pins s σ H _ I h) λus s1 ⟨vs,H1,I1,r1,q1⟩=>?_) hs rfl))
 obtain ⟨a,e,⟨xs,hq⟩,q⟩:=q1
 subst e
 obtain ⟨u,rfl,ru⟩:=r1.one
 obtain rfl:u=Value.ref a:=ru
 obtain ⟨its,_,p1,_⟩:=I1.list hq
 refine call_enumerate_list p1.isList λh' he hit hsz kk=>wpAny_pyIter_enum he ?_
 have ne:∀(n:Nat),n+1≠n:=λn z=>by omega
 refine ⟨_,[s1.heap.objs.size+1,s1.heap.objs.size],_,_,H1,rfl,I1.kept (t':=s1.toks) kk,Na (ne _),⟨⟨_,he⟩,hit⟩,λc hc=>?_,q⟩
 have le:s1.heap.objs.size<=c:=by
  simp only [yL,List.not_mem_nil,wQ] at hc
  rcases hc with q|q<;>rw [q]<;>first|exact ya _|exact Nat.le_add_right _ _
 exact I1.fpOk le (I1.hok.fresh le)
end L2
namespace Mi
open PySem L2 PySem.W PySem.Spec
section
variable {X:Cx}{Er:XK}{pos:Pos}{cB:List Stmt}{gb:Aj}{fs:Ah}
def c6 (g:PV->zc->Option zc) (body:Aj) (n:Nat):Nat->Nat->Aj
 | 0,_,_,_=>.stuck
 | m+1,i,env,st=>yp st n λxs=>match xs[i]? with
  | none=>.ok (.nx env) st
  | some x=>match g (.tup [.int i,x]) env with
   | none=>.stuck
   | some bf=>(body bf st).bind λfl aK=>match fl with
    | .nx e=>c6 g body n m (i+1) e aK
    | .ct e=>c6 g body n m (i+1) e aK
    | .bk e=>.ok (.nx e) aK
    | .rt v=>.ok (.rt v) aK
def kI:List PV->Mo Nat
 | [.ref n],st=>yp st n λ_=>.ok n st
 | _,_=>.stuck
def uz {α:Type}{K:Frag}{mg:Ab}{ρ:Ae}{H:Hp}{vs:An}{st:ae}{f:Nat->Mo α}{good:List Addr->Hp->α->ae->Prop}(h:Out K mg ρ H ((kI vs st).bind f) good Er):∃n xs,vs=[.ref n]/\st[n]?=some (.lst xs)/\Out K mg ρ H (f n st) good Er:=by
 unfold kI at h
 split at h
 ·rename_i n
  unfold yp at h
  cases hn:st[n]? with
  | none=>simp only [hn] at h;exact h.elim
  | some so =>
   cases so with
   | lst xs=>simp only [hn] at h;exact ⟨n,xs,rfl,hn,h⟩
   | _=>simp only [hn] at h;exact h.elim
 ·exact h.elim
def ma (fs:Ah) (g:PV->zc->Option zc) (body:Aj):Aj:=λenv st=>(fs env st).bind λvs aa=>(kI vs aa).bind λn aa=>c6 g body n (lim+1) 0 env aa
def zh1 {elts:List Expr} {kt:Nat} {tp p ip:Pos} {x:Expr} {gt:PV->zc->Option zc} (hp:PassesOwn (model X.prog X.w) X.A X.env X.xe) (hc:X.calm=true) (hm:X.mg "enumerate" = none) (ha:MA X Er [x] fs) (hg:MG X Er (.Tuple elts kt tp) gt) (hb:dc X Er cB gb)
  (gL:Gl X "enumerate" := by rfl) (a9:starEach [x] X.env=[(false,eval x X.env)]:=by rfl) (hs:∀v,foldedSetIterable (.Call (.Name "enumerate" p) [x] [] ip) X.env v=pure v:=by intro _;rfl) :
  MS X Er (.For (.Tuple elts kt tp) (.Call (.Name "enumerate" p) [x] [] ip) cB [] pos) (ma fs gt gb) :=
 PS.weak (mU hp hc (Nc gL hm ha a9) hg hb hs) λD σ H ⟨env,st,ρ,re,rs,h⟩=>⟨env,st,ρ,re,rs,h.then λaq H0 vs cK e0 s0 h0 us ru=>by
  obtain ⟨n,nR,rfl,Nd,h0⟩:=uz h0
  obtain ⟨v,rfl,rv⟩:=ru.one
  obtain ⟨a,rfl,ha⟩:=rv
  obtain ⟨kq,Nf,om⟩:=s0.addr Nd ha
  refine ⟨a,rfl,⟨_,a4.of Nf⟩,?_⟩
  refine ⟨λi m σ H=>∃env st ρ,a8 X.K X.mg ρ H env σ/\a0 X.K X.mg ρ H st/\ρ[n]?=some a/\Out X.K X.mg ρ H (c6 gt gb n m i env st) (gS X.K X.mg D) Er,⟨lim+1,env,cK,aq,re.ext e0,s0,ha,h0⟩,?_⟩
  rintro i m σ H ⟨env,st,ρ,re,rs,ha,h⟩
  cases m with
  | zero=>exact h.elim
  | succ m =>
   obtain ⟨xs,hn,h⟩:=jm h
   obtain ⟨vs,hH,hR⟩:=rs.addr hn ha
   cases hx:xs[i]? with
   | none =>
    simp only [hx] at h
    have:vs.length<=i:=by rw [<-hR.len];exact iX.mp hx
    exact .inl ⟨⟨vs,a4.of hH,this⟩,Out.now (x:=Fl.nx env) h rs σ re⟩
   | some x =>
    simp only [hx] at h
    obtain ⟨v,hv,rv⟩:=hR.get hx
    refine .inr ⟨⟨vs,v,a4.of hH,hv⟩,_,λah H' p'=>⟨m,jP m,p'⟩,λv' H' y=>?_⟩
    obtain ⟨T,x',hT,rfl,rfl,y⟩:=y
    have e2:=y vs (a4.of hH)
    rw [hv] at e2
    cases e2
    have ex:Ext ρ H ρ (upd H T (.tup [.int i,v])):=Ext.new hT
    cases hgx:gt (.tup [.int i,x]) env with
    | none=>simp only [hgx] at h;exact h.elim
    | some bf =>
     simp only [hgx] at h
     refine ⟨.tup [.int i,x],env,bf,ρ,⟨T,[.int i,v],rfl,.inl (.inl yC),_,_,rfl,rfl,_,_,rfl,R.ext ex x rv,rfl⟩,re.ext ex,hgx,λaw r1=>⟨bf,st,ρ,r1,rs.new hT,Out.then (Out.ext h ex) λal H3 fl aX e3 s3 h3=>?_⟩⟩
     cases fl with
     | nx e=>exact λay r4=>⟨e,aX,al,r4,s3,e3.get ha,h3⟩
     | ct e=>exact λay r4=>⟨e,aX,al,r4,s3,e3.get ha,h3⟩
     | bk e=>exact Out.fl (D:=D) (fl:=.nx e) (E:=Er) h3 s3
     | rt v=>exact Out.fl (D:=D) (fl:=.rt v) (E:=Er) h3 s3⟩
end
section
variable {X:Cx}{Er:XK}{pos:Pos}{fs:Ah}
end
end Mi
namespace L2
open PySem PySem.Spec PyProof.Rows PySem.W
def cb (z:Str) (n:Int):Str:=if n<1 then Str.empty else if (n==1||z.length==0)=true then z else ⟨(List.replicate n.toNat z.cps).foldl (·++·) #[]⟩
def Cq (c:Array Nat):∀(k:Nat) (a:Array Nat),((List.replicate k c).foldl (·++·) a).size=a.size+k*c.size
 | 0,a=>by simp
 | k+1,a=>by
  rw [List.replicate_succ,List.foldl_cons,Cq c k,Array.size_append,Nat.succ_mul]
  omega
def Ng (z:Str) (n:Int):(cb z n).length=n.toNat*z.length:=by
 unfold cb
 split
 ·rename_i h
  have:n.toNat=0:=by omega
  rw [this,Nat.zero_mul];rfl
 ·rename_i h
  split
  ·rename_i h2
   simp only [Bool.or_eq_true,beq_iff_eq] at h2
   rcases h2 with h2|h2
   ·subst h2;simp
   ·rw [h2];simp
  ·show ((List.replicate n.toNat z.cps).foldl (·++·) #[]).size=_
   rw [Cq]
   show 0+n.toNat*z.cps.size=_
   rw [Nat.zero_add];rfl
def Cr:R2:=λx y H Q=>∃z n,x=.str z/\y=.int n/\(0<=n/\n<=1000/\z.length<=1000)/\Q (.str (cb z n)) H
def Nh {X:Cx}:bg X (binaryOp .Mult) Cr:=by
 intro pins s σ H x y v u Q I rx ry h
 obtain ⟨z,n,rfl,rfl,⟨h0,h1,h2⟩,q⟩:=h
 obtain ⟨t,rfl⟩:=rx
 obtain ⟨t',rfl⟩:=ry
 have hb:n.toNat*z.length<=1000000:=by
  have:n.toNat<=1000:=by omega
  calc n.toNat*z.length<=1000*1000:=Nat.mul_le_mul this h2
   _=1000000:=rfl
 have hsz:=sizeLine_eq
 refine PySem.P.mul_str (by rw [jn (by omega),jn (by omega)];rfl) (λha _=>?_) (λ_ _=>?_) ?_
 ·have:(2 ^ 63-1:Int)/n>=1000:=by
   rw [ge_iff_le,Int.le_ediv_iff_mul_le (by omega)]
   omega
  omega
 ·show decide _=false
  rw [decide_eq_false_iff_not]
  have:z.length*n.toNat<=1000000:=by rw [Nat.mul_comm];exact hb
  rw [sizeLine_eq];omega
 ·by_cases c1:n<1
  ·rw [zA c1]
   have e:cb z n=Str.empty:=by unfold cb;rw [zA c1]
   rw [e] at q
   exact ⟨by decide,.str Str.empty,H,I.tok _,⟨_,rfl⟩,q⟩
  ·rw [zF c1]
   by_cases c2:(n==1||z.length==0)=true
   ·rw [zA c2]
    have e:cb z n=z:=by unfold cb;rw [zF c1,zA c2]
    rw [e] at q
    exact ⟨.str z,H,I,⟨_,rfl⟩,q⟩
   ·rw [zF c2]
    have e:cb z n=⟨(List.replicate n.toNat z.cps).foldl (·++·) #[]⟩:=by unfold cb;rw [zF c1,zF c2]
    have hl:=Ng z n
    rw [e] at q hl
    exact ⟨by rw [hl,sizeLine_eq];omega,.str _,H,I.tok _,⟨_,rfl⟩,q⟩
end L2
namespace Mi
open PySem L2 PySem.W PySem.Spec
section
variable {X:Cx}{K:Frag}{mg:Ab}{Er:XK}{e o:Expr}{es:List Expr}{pos apos:Pos}{fs:Ah}{fo fa:Ai}
def jq:Am
 | .int i,.int j,st=>BA (.int i) (.int j) st
 | .str z,.int n,st=>if 0<=n/\n<=1000/\z.length<=1000 then .ok (.str (cb z n)) st else .stuck
 | _,_,_=>.stuck
def zaq:dA X .Mult jq:=by
 obtain ⟨r,h1,h2⟩:=K0 (X:=X)
 refine ⟨λx y H Q=>r x y H Q\/Cr x y H Q,h1.or Nh,fun ρ H st x y v w Q E s rx ry h=>?_⟩
 cases x with
 | int i =>
  cases y with
  | int j=>exact .inl (h2 ρ H st (.int i) (.int j) v w Q E s rx ry h)
  | _=>exact h.elim
 | str z =>
  cases y with
  | int n =>
   obtain ⟨c,h⟩:=Out.ifp h
   cases rx;cases ry
   exact .inr ⟨z,n,rfl,rfl,c,Out.now (x:=PV.str (cb z n)) h s _ rfl⟩
  | _=>exact h.elim
 | _=>exact h.elim
def wc:Al
 | [.int i],st=>if i.natAbs.log2<1920 then .ok (.str (toString i)) st else .stuck
 | _,_=>.stuck
def Ni:cg X (.type "str") wc:=⟨_,HN,fun ρ H st xs vs Q E s r h=>by
 unfold wc at h
 split at h
 ·rename_i i
  obtain ⟨c,h⟩:=Out.ifp h
  obtain ⟨v,rfl,rfl⟩:=r.one
  exact ⟨i,rfl,c,Out.now (x:=PV.str (toString i)) h s _ rfl⟩
 ·exact h.elim⟩
def Rs.reverse {ρ:Ae}{H:Hp}:∀{xs:An}{vs:List V},Rs K mg ρ H xs vs->Rs K mg ρ H xs.reverse vs.reverse
 | [],_,h=>by cases h;rfl
 | x::xs,_,h=>by
  obtain ⟨v,r,rfl,h1,h2⟩:=h
  rw [List.reverse_cons,List.reverse_cons]
  exact (Rs.reverse h2).append ⟨v,[],rfl,h1,rfl⟩
def oo:List Expr->Option (Ad)
 | []=>some []
 | .Constant (.str z) _ _::r=>(oo r).map (z::·)
 | _::_=>none
def kJ (zs:Ad):Ah:=λ_ st=>.ok (zs.map PV.str) st
def zh4:∀{es:List Expr}{zs:Ad},oo es=some zs->MA X Er es (kJ zs):=by
 intro es
 induction es with
 | nil=>intro zs h;cases h;exact zo
 | cons e r ih =>
  intro zs h
  cases e with
  | Constant c j p =>
   cases c with
   | str z =>
    simp only [oo,Option.map_eq_some_iff] at h
    obtain ⟨zr,h1,rfl⟩:=h
    exact Bw zT (ih h1) M7
   | _=>cases h
  | _=>cases h
end
section
variable {env:zc}{st:ae}{fa fb fo fi fv fe:Ai}{fs:Ah}{ft:Ak}{g:Aj}{src:zc->Mo Sq}
@[simp] def We (xs:An) (i:Int):zn (.tup xs) (.int i) st=bA (bI xs i) st:=(rfl)
@[simp] def Nj (z:Str) (i:Int):zn (.str z) (.int i) st=if z.length<=lim then bA ((bI z.cps.toList i).map λc=>.str ⟨#[c]⟩) st else .stuck:=(rfl)
@[simp] def qt:jg src fe env st=(src env st).bind λq aa=>fP fe env q aa:=(rfl)
@[simp] def uA (xs:An):fP fe env (.im xs) st=if xs.length<=lim then cj fe env xs [] st else .stuck:=(rfl)
@[simp] def Nk:eP fs env st=(fs env st).bind l0:=(rfl)
@[simp] def Nl (j:Int):l0 [.int j] st=if cR j=true then .ok (.im (nums 0 j.toNat)) st else .stuck:=(rfl)
@[simp] def Cs (gt:PV->zc->Option zc):ma fs gt g env st=(fs env st).bind λvs aa=>(kI vs aa).bind λn aa=>c6 gt g n (lim+1) 0 env aa:=(rfl)
@[simp] def Wf (n:Nat):kI [.ref n] st=yp st n λ_=>.ok n st:=(rfl)
@[simp] def Nm (i:Int):wc [.int i] st=if i.natAbs.log2<1920 then .ok (.str (toString i)) st else .stuck:=(rfl)
@[simp] def Nn (i j:Int):jq (.int i) (.int j) st=if bW i j=true then .ok (.int (i*j)) st else .stuck:=(rfl)
@[simp] def Np (z:Str) (n:Int):jq (.str z) (.int n) st=if 0<=n/\n<=1000/\z.length<=1000 then .ok (.str (cb z n)) st else .stuck:=(rfl)
@[simp] def Nq (neg:Bool) (x:PV) (ys:An):yG neg x (.tup ys) st=if okIn x ys then .ok (.bl (neg.xor (ys.any λy=>bo y x))) st else .stuck:=by unfold yG;cases x<;>rfl
@[simp] def qu (n:Nat):jp [.ref n] st=yp st n λxs=>.ok (.tup xs) st:=(rfl)
@[simp] def Nr (n:Nat) (y:PV):wZ (.ref n) y st=yp st n λxs=>if xs.length<lim then .ok .non (st.set n (.lst (xs++[y]))) else .stuck:=(rfl)
end
def Pre (a b:ae):Prop:=∃d,b=a++d
def Pre.refl (st:ae):Pre st st:=⟨[],by simp⟩
def Pre.trans {a b c:ae}(h:Pre a b) (h':Pre b c):Pre a c:=by obtain ⟨d,rfl⟩:=h;obtain ⟨d',rfl⟩:=h';exact ⟨d++d',by simp⟩
def Pre.of (st d:ae):Pre st (st++d):=⟨d,rfl⟩
def Pre.get {a b:ae}(h:Pre a b) {n:Nat}{so:SO}(e:a[n]?=some so):b[n]?=some so:=by
 obtain ⟨d,rfl⟩:=h
 rw [g8 (yr.mp e).1]
 exact e
def yj (st:ae) (so:SO):(st++[so])[st.length]?=some so:=by simp
def Ct {fe:Ai}{env:zc}{f:PV->PV}{st:ae}:∀(xs:An),(∀x∈xs,fe (some x::env) st=.ok (f x) st)->∀(ys:An),cj fe env xs ys st=.ok (.ref st.length) (st++[.lst (ys++xs.map f)])
 | [],_,ys=>by simp [cj]
 | x::xs,h,ys=>by
  simp only [cj,h x (y3 ..),jY,zJ]
  rw [Ct xs (λx' lZ=>h x' (jh _ lZ))]
  simp
def zqh {K:Frag}{mg:Ab}{t:IsT}(hs:t.sub=λ_ _=>none) (hT:t.subT=λ_ _=>none) (hC:t.tyC=λ_ _=>none):IsF K mg t where
 s c B b h:=by rw [hs] at h;cases h
 tt c n b h:=by rw [hT] at h;cases h
 u T B b h:=by rw [hC] at h;cases h
 x c C h hm z:=by
  rcases z with ⟨B,b,z⟩|⟨n,b,z⟩
  ·rw [hs] at z;cases z
  ·rw [hT] at z;cases z
 i c C h hm z:=by
  rcases z with ⟨B,b,z⟩|⟨n,b,z⟩
  ·rw [hs] at z;cases z
  ·rw [hT] at z;cases z
section
variable {X:Cx}{Er:XK}{pos:Pos}
inductive oq (X:Cx) (Er:XK):List (Option Expr)->List Expr->List Str->List (Ai)->Prop
 | nil:oq X Er [] [] [] []
 | cons {z:Str} {j} {p:Pos} {v:Expr} {f:Ai} {ks:List (Option Expr)} {vs:List Expr} {zs:Ad} {fs:List (Ai)} (hv:ME X Er v f) (hr:oq X Er ks vs zs fs):oq X Er (some (.Constant (.str z) j p)::ks) (v::vs) (z::zs) (f::fs)
def oq.len {ks:List (Option Expr)}{vs:List Expr}{zs:Ad}{fs:List (Ai)}(h:oq X Er ks vs zs fs):ks.length=vs.length/\zs.length=fs.length/\ks.length=zs.length/\ks.all (·.isSome)=true:=by
 induction h with
 | nil=>exact ⟨rfl,rfl,rfl,rfl⟩
 | cons hv hr ih=>exact ⟨by simp [ih.1],by simp [ih.2.1],by simp [ih.2.2.1],by simpa using ih.2.2.2⟩
def fQ:Option SO->Bool
 | some (.dic [] [])=>true
 | _=>false
def Nt {o:Option SO}(h:fQ o=true):o=some (.dic [] []):=by
 unfold fQ at h
 split at h
 ·rfl
 ·cases h
def Cu:∀{zs:Ad}{vs:List V},(zs.map V.str).zip vs=((zs.map Sum.inr:List Key).zip vs).map λkv=>(kV kv.1,kv.2)
 | [],_=>rfl
 | _::_,[]=>rfl
 | z::zs,v::vs=>by simp only [jB,List.zip_cons_cons,Cu (zs:=zs) (vs:=vs)];rfl
end
section
variable {X:Cx}
end
section
variable {X:Cx}
def Nu:bg X (compareOp .Is) (λx y H Q=>∃a b,x=.bl a/\y=.bl b/\Q (.bl (a==b)) H):=by
 intro pins s σ H x y v u Q I rx ry h
 obtain ⟨a,b,rfl,rfl,q⟩:=h
 cases rx;cases ry
 exact PyProof.Rows.is_bool ⟨.bl (a==b),H,I,rfl,q⟩
def Nv:bg X (compareOp .IsNot) (λx y H Q=>∃a b,x=.bl a/\y=.bl b/\Q (.bl (!(a==b))) H):=by
 intro pins s σ H x y v u Q I rx ry h
 obtain ⟨a,b,rfl,rfl,q⟩:=h
 cases rx;cases ry
 exact PyProof.Rows.isnot_bool ⟨.bl (!(a==b)),H,I,rfl,q⟩
def qv:Am
 | .bl a,.bl b,st=>.ok (.bl (a==b)) st
 | x,y,st=>BD x y st
def wN:Am
 | .bl a,.bl b,st=>.ok (.bl (!(a==b))) st
 | x,y,st=>BE x y st
def zql:bC X .Is qv:=by
 obtain ⟨r,h1,h2⟩:=K9 (X:=X)
 refine ⟨λx y H Q=>r x y H Q\/_,h1.or Nu,fun ρ H st x y v w Q E s rx ry h=>?_⟩
 unfold qv at h
 split at h
 ·rename_i a b
  cases rx;cases ry
  exact .inr ⟨_,_,rfl,rfl,Out.now (x:=PV.bl (a==b)) h s _ rfl⟩
 ·exact .inl (h2 ρ H st _ _ v w Q E s rx ry h)
def zeF:bC X .IsNot wN:=by
 obtain ⟨r,h1,h2⟩:=K_ (X:=X)
 refine ⟨λx y H Q=>r x y H Q\/_,h1.or Nv,fun ρ H st x y v w Q E s rx ry h=>?_⟩
 unfold wN at h
 split at h
 ·rename_i a b
  cases rx;cases ry
  exact .inr ⟨_,_,rfl,rfl,Out.now (x:=PV.bl (!(a==b))) h s _ rfl⟩
 ·exact .inl (h2 ρ H st _ _ v w Q E s rx ry h)
end
def eK (f:PV->PV->Option Bool):List PV->List PV->Option Bool
 | [],[]=>some true
 | x::xs,y::ys=>match f x y,eK f xs ys with
  | some a,some b=>some (a&&b)
  | _,_=>none
 | _,_=>some false
def de (f:PV->PV->Option Bool) (cy:Ad) (cx:An):List Str->List PV->Option Bool
 | k::ks,x::xs=>match (cy.zip cx).lookup k with
  | none=>some false
  | some y=>match f x y,de f cy cx ks xs with
   | some a,some b=>some (a&&b)
   | _,_=>none
 | _,_=>some true
def Cw {f:PV->PV->Option Bool}:∀{xs ys:An}{b:Bool},eK f xs ys=some b->∃e:Nat->Bool,(∀j x y,xs[j]?=some x->ys[j]?=some y->f x y=some (e j))/\((List.range (min xs.length ys.length)).all e&&xs.length==ys.length)=b
 | [],[],b,h=>by cases h;exact ⟨λ_=>true,λj x y h=>by simp at h,by simp⟩
 | [],y::ys,b,h=>by cases h;exact ⟨λ_=>true,λj x y h=>by simp at h,by simp⟩
 | x::xs,[],b,h=>by cases h;exact ⟨λ_=>true,λj x y _ h=>by simp at h,by simp⟩
 | x::xs,y::ys,b,h=>by
  simp only [eK] at h
  cases hf:f x y with
  | none=>rw [hf] at h;cases h
  | some a =>
   cases hr:eK f xs ys with
   | none=>rw [hf,hr] at h;cases h
   | some c =>
    rw [hf,hr] at h
    cases h
    obtain ⟨e,h1,h2⟩:=Cw hr
    refine ⟨λj=>match j with|0=>a|j+1=>e j,λj u v hu hv=>?_,?_⟩
    ·cases j with
     | zero=>simp at hu hv;subst hu;subst hv;exact hf
     | succ j=>simp at hu hv;exact h1 j u v hu hv
    ·have e1:min (x::xs).length (y::ys).length=min xs.length ys.length+1:=by simp only [wF];omega
     have e2:((x::xs).length==(y::ys).length)=(xs.length==ys.length):=by
      rw [Bool.eq_iff_iff];simp
     rw [e1,e2,List.range_succ_eq_map,List.all_cons,List.all_map,<-h2,Bool.and_assoc]
     rfl
section
variable {X:Cx}{Er:XK}{K:Frag}{mg:Ab}{ρ:Ae}{pins:Ac}{σ:L2.St}{H:Hp}{s:Shared}{st:ae}
def Nw {ρ:Ae}(nd:ρ.Nodup) {n m:Nat}{a:Addr}(h:ρ[n]?=some a) (h':ρ[m]?=some a):n=m:=by
 obtain ⟨h1,h2⟩:=yr.mp h
 obtain ⟨h3,h4⟩:=yr.mp h'
 have pw:=List.pairwise_iff_getElem.mp nd
 rcases Nat.lt_trichotomy n m with c|c|c
 ·exact absurd (h2.trans h4.symm) (pw n m h1 h3 c)
 ·exact c
 ·exact absurd (h4.trans h2.symm) (pw m n h3 h1 c)
def Cy {f:PV->PV->Option Bool}(hf:∀x y v b,f x y=some b->R K mg ρ H x v->R K mg ρ H y v->b=true):∀{xs ys:An}{vs:List V}{b:Bool},eK f xs ys=some b->Rs K mg ρ H xs vs->Rs K mg ρ H ys vs->b=true
 | [],[],vs,b,h,_,_=>by cases h;rfl
 | [],y::ys,vs,b,h,rx,ry=>by cases rx;obtain ⟨_,_,e,_⟩:=ry;cases e
 | x::xs,[],vs,b,h,rx,ry=>by cases ry;obtain ⟨_,_,e,_⟩:=rx;cases e
 | x::xs,y::ys,vs,b,h,rx,ry=>by
  obtain ⟨v,r,rfl,r1,r2⟩:=rx
  obtain ⟨v',r',e,r3,r4⟩:=ry
  cases e
  simp only [eK] at h
  cases h1:f x y with
  | none=>rw [h1] at h;cases h
  | some a =>
   cases h2:eK f xs ys with
   | none=>rw [h1,h2] at h;cases h
   | some c =>
    rw [h1,h2] at h
    cases h
    rw [hf x y v a h1 r1 r3,Cy hf h2 r2 r4]
    rfl
def Cz {f:PV->PV->Option Bool}(hf:∀x v b,f x x=some b->R K mg ρ H x v->b=true) {uB:Ad}{nR:An}:∀{ks:Ad}{xs:An}{vs:List V}{b:Bool},(∀k x,(k,x)∈ks.zip xs->(uB.zip nR).lookup k=some x)->de f uB nR ks xs=some b->Rs K mg ρ H xs vs->b=true
 | [],xs,vs,b,_,h,_=>by cases xs<;>(cases h;rfl)
 | k::ks,[],vs,b,_,h,_=>by cases h;rfl
 | k::ks,x::xs,vs,b,hm,h,rx=>by
  obtain ⟨v,r,rfl,r1,r2⟩:=rx
  simp only [de] at h
  rw [hm k x (by simp)] at h
  simp only at h
  cases h1:f x x with
  | none=>rw [h1] at h;cases h
  | some a =>
   cases h2:de f uB nR ks xs with
   | none=>rw [h1,h2] at h;cases h
   | some c =>
    rw [h1,h2] at h
    cases h
    rw [hf x v a h1 r1,Cz hf (λk' x' h'=>hm k' x' (by simp [h'])) h2 r2]
    rfl
def CA:∀{ks:Ad}{xs:An},ks.Nodup->∀k x,(k,x)∈ks.zip xs->(ks.zip xs).lookup k=some x
 | [],_,_,k,x,h=>by simp at h
 | _::_,[],_,k,x,h=>by simp at h
 | k0::ks,x0::xs,nd,k,x,h=>by
  rw [jC] at nd
  rw [List.zip_cons_cons] at h ⊢
  rcases yL.mp h with e|h'
  ·cases e;simp [yE]
  ·have hk:k∈ks:=(List.of_mem_zip h').1
   have ne:(k==k0)=false:=by
    simp only [beq_eq_false_iff_ne]
    intro e;subst e;exact nd.1 hk
   rw [yE,ne]
   exact CA nd.2 k x h'
end
def dN (P:Program) (W:World) (A:Around) (s:Shared) (u u':Value) (b:Bool):Prop:=∀(E:Aa) (Q:Bool->Shared->Prop),Q b s->wpAny (model P W) A (eqBool u u') Q E s
def bZ (P:Program) (W:World) (A:Around) (s:Shared) (u u':Value) (b:Bool):Prop:=∀(E Q:Aa),Q (.bool b) s->wpAny (model P W) A (richCompare .Eq u u') Q E s
section
variable {P:Program}{W:World}{A:Around}{s:Shared}
def dN.of_refs {l b:Addr}{k:Bool}(km:l≠b) (h:bZ P W A s (.ref l) (.ref b) k):dN P W A s (.ref l) (.ref b) k:=λE Q hq=>by
 unfold eqBool
 refine jU (wpAny_ite_split (λdM=>absurd (by have:=eq_of_beq dM;injection this) km) λ_=>?_)
 exact zl (h E _ (wC hq))
def Nx {l b:Addr}{its aU:Array Value}{n n2:Nat}{dd i5:Option Addr}{sl fB:Array (Option Value)}{e:Nat->Bool}{E Q:Aa}
  (hl:s.heap.get? l=some { cls:=.type "tuple", dict:=dd,data:=.seq its n,slots:=sl }) (hb:s.heap.get? b=some { cls:=.type "tuple", dict:=i5,data:=.seq aU n2,slots:=fB })
  (he:∀j (h1:j<its.size) (h2:j<aU.size),dN P W A.in1 s its[j] aU[j] (e j)) (h:Q (.bool ((List.range (min its.size aU.size)).all e&&its.size==aU.size)) s) :
  wpAny (model P W) A.in1 (Builtin.«tuple.__eq__» ⟨[.ref l,.ref b],[]⟩) (λfin s'=>∃v,fin=.done (.ret v)/\Q v s') E s:=by
 obtain ⟨hp,g,d,tk,os⟩:=s
 have f2:=AutoSeq1.sub_tuple_tuple
 have hZ:(its.toList.zip aU.toList).length=min its.size aU.size:=by simp
 wp_walk using AutoSeq1.wpAny_loadPart' hl,AutoSeq1.wpAny_loadPart' hb,wpAny_forIn_list _ (λrest b s'=>b.1=none/\s'=⟨hp,g,d,tk,os⟩/\∃i,rest=(its.toList.zip aU.toList).drop i/\Q (.bool (((List.range (min its.size aU.size)).drop i).all e&&its.size==aU.size)) ⟨hp,g,d,tk,os⟩) _
 case turn =>
  rintro ⟨y,x⟩ rest b s' ⟨uC,rfl,i,hz,hR⟩
  have a7:i<(its.toList.zip aU.toList).length:=by
   rcases Nat.lt_or_ge i (its.toList.zip aU.toList).length with h'|h'
   ·exact h'
   ·rw [g9 h'] at hz;cases hz
  have hm:i<min its.size aU.size:=hZ▸a7
  have h1:i<its.size:=by omega
  have h2:i<aU.size:=by omega
  rw [jK a7] at hz
  injection hz with ib fI
  have hy:y=its[i]:=by have:=congrArg Prod.fst ib;simpa using this
  have hx:x=aU[i]:=by have:=congrArg Prod.snd ib;simpa using this
  subst hy hx
  have hd:(List.range (min its.size aU.size)).drop i=i::(List.range (min its.size aU.size)).drop (i+1):=by simp [jK,hm]
  rw [hd,List.all_cons] at hR
  refine zl (he i h1 h2 _ _ ?_)
  cases hy:e i with
  | true =>
   rw [hy] at hR
   wp_walk
   exact ⟨rfl,rfl,i+1,fI,by simpa using hR⟩
  | false =>
   rw [hy] at hR
   wp_walk
   exact ⟨_,rfl,by simpa using hR⟩
 case fin =>
  rintro ⟨b1,b2⟩ s' ⟨uC,rfl,i,hz,hR⟩
  simp only at uC
  subst uC
  have Ny:min its.size aU.size<=i:=by
   rcases Nat.lt_or_ge i (its.toList.zip aU.toList).length with h'|h'
   ·rw [jK h'] at hz;cases hz
   ·exact hZ▸h'
  rw [g9 (by simpa using Ny)] at hR
  wp_walk
  exact ⟨_,rfl,by simpa [Builtin.Tuple.tupleCompareSizes] using hR⟩
 case h=>exact ⟨rfl,rfl,0,rfl,by simpa using h⟩
def bZ.tuples {l b:Addr}{its aU:Array Value}{e:Nat->Bool}(hl:s.heap.IsTuple l its) (hb:s.heap.IsTuple b aU) (hu:A.units<cLine)
  (he:∀j (h1:j<its.size) (h2:j<aU.size),dN P W A.in1 s its[j] aU[j] (e j)):bZ P W A s (.ref l) (.ref b) ((List.range (min its.size aU.size)).all e&&its.size==aU.size):=λE Q h=>by
 obtain ⟨⟨cls,dd,data,sl⟩,ho,hc,n,hd⟩:=id hl
 obtain ⟨⟨rH,i5,data2,fB⟩,ho2,fC,n2,hd2⟩:=id hb
 simp only at hc hd fC hd2
 subst hc hd fC hd2
 refine wpAny_richCompare_same_room (op:=.Eq) ⟨_,ho,rfl⟩ ⟨_,ho2,rfl⟩ F.slot_tuple_eq (jJ F.slot_tuple_eq ⟨_,ho,rfl⟩ F.entry_tuple_eq (Nx (Q:=λv s'=>v ≠ .notImplemented/\Q v s') ho ho2 he (show Value.bool ((List.range (min its.size aU.size)).all e&&its.size==aU.size)≠Value.notImplemented/\Q (.bool ((List.range (min its.size aU.size)).all e&&its.size==aU.size)) s from ⟨(λx=>nomatch x),h⟩)) (F.args_tuple_eq_2 _ _)) hu
end
section
variable {X:Cx}{Er:XK}{K:Frag}{mg:Ab}{ρ:Ae}{pins:Ac}{σ:L2.St}{H:Hp}{s:Shared}{st:ae}
def Nz {k:Str}{ks:Ad}{v:V}{vs:List V}{us:List (Key×Value)}(h:KV (kz (k::ks) (v::vs)) us):∃u r,us=(Sum.inr k,u)::r/\RelV v u/\KV (kz ks vs) r:=by
 cases h with
 | @cons p q ps qs h t =>
  obtain ⟨h1,h2⟩:=h
  obtain ⟨k',u⟩:=q
  have:k'=Sum.inr k:=h1.symm
  subst this
  exact ⟨u,qs,rfl,h2,t⟩
def CB {f:Str}:∀{ks:Ad}{xs:An}{vs:List V},Rs K mg ρ H xs vs->(ks.zip xs).lookup f=none->(ks.zip vs).lookup f=none
 | [],_,_,_,_=>by simp
 | k::ks,[],_,r,_=>by cases r;simp
 | k::ks,y::xs,_,r,h=>by
  obtain ⟨v,r',rfl,h1,h2⟩:=r
  simp only [List.zip_cons_cons,yE] at h ⊢
  split at h
  ·cases h
  ·exact CB h2 h
def NA {f:PV->PV->Option Bool}{G:Value->Value->Bool->Prop}(hf:∀x y v w u u' b,f x y=some b->R K mg ρ H x v->R K mg ρ H y w->RelV v u->RelV w u'->G u u' b) {xs ys:An}{vs ws:List V}{its aU:Af}{e:Nat->Bool}(h2:Rs K mg ρ H xs vs) (h4:Rs K mg ρ H ys ws) (r1:Vals vs its) (r2:Vals ws aU) (he:∀j x y,xs[j]?=some x->ys[j]?=some y->f x y=some (e j)) :
  ∀j (g1:j<its.toArray.size) (g2:j<aU.toArray.size),G its.toArray[j] aU.toArray[j] (e j):=by
 intro j g1 g2
 have l1:=h2.len
 have l2:=h4.len
 have l3:=r1.length
 have l4:=r2.length
 have k1:j<xs.length:=by rw [l1,l3];simpa using g1
 have k2:j<ys.length:=by rw [l2,l4];simpa using g2
 obtain ⟨v1,e1,tW⟩:=h2.get (yu k1)
 obtain ⟨v2,e2,tX⟩:=h4.get (yu k2)
 obtain ⟨u1,f1,tY⟩:=r1.get e1
 obtain ⟨u2,f2,tZ⟩:=r2.get e2
 have w1:its.toArray[j]=u1:=by
  obtain ⟨_,z⟩:=yr.mp f1
  simpa using z
 have w2:aU.toArray[j]=u2:=by
  obtain ⟨_,z⟩:=yr.mp f2
  simpa using z
 rw [w1,w2]
 exact hf xs[j] ys[j] v1 v2 u1 u2 (e j) (he j _ _ (yu k1) (yu k2)) tW tX tY tZ
end
section
variable {X:Cx}{Er:XK}{K:Frag}{mg:Ab}
def cF:∀{ks:Ad}{us:Af},us.length=ks.length->(∀(j:Nat) v,us[j]?=some v->∃k,ks[j]?=some k/\∃t,v=Value.str k t)->Vals (ks.map V.str) us
 | [],[],_,_=>.nil
 | [],_::_,h,_=>by simp at h
 | _::_,[],h,_=>by simp at h
 | k::ks,u::us,h,hv=>by
  obtain ⟨k',e,t,ev⟩:=hv 0 u rfl
  simp at e
  subst e
  exact .cons ⟨t,ev⟩ (cF (by simpa using h) λj v e=>by simpa using hv (j+1) v (by simpa using e))
def NC (hc:X.calm=true):bz X (.type "list") (λxs H Q=>∃p ks vs,xs=[.ref p]/\H p=some (.dK (kz ks vs))/\ks.length=vs.length/\∀l,H l=none->Q (.ref l) (upd H l (.lst (ks.map V.str)))):=by
 intro pins s σ H xs us Q I r h
 obtain ⟨p,ks,vs,rfl,hp,hl,q⟩:=h
 obtain ⟨u,rfl,rx⟩:=wI r
 cases rx
 obtain ⟨hz,lo,kv,qw,hd⟩:=jt I.hok (.inl hp)
 obtain ⟨ep,ou⟩:=hd.dictAt
 have lk:kv.length=ks.length:=by rw [<-qw.length];simp [kz,hl]
 have keys:kv.map (·.1)=ks.map Sum.inr:=by
  rw [<-qw.keys]
  simp [kz,hl,List.map_fst_zip]
 refine kdl_call (kdl_dict (knd:=a3 X.prog X.w) (kvs:=kv) (ep:=ep) lo) (I.ok.hd hc) ou (by rw [<-qw.length];exact hz) λh' tk bu c' hk hS lq=>?_
 have hv:Vals (ks.map V.str) bu.toList:=cF (by rw [Array.length_toList,lq.1,lk]) λj v e=>by
  obtain ⟨k,x,e1,e2⟩:=lq.2 j v (by rw [<-Array.getElem?_toList];exact e)
  have e3:(kv.map (·.1))[j]?=some k:=by rw [jr,e1];rfl
  rw [keys,jr] at e3
  cases e4:ks[j]? with
  | none=>rw [e4] at e3;cases e3
  | some k' =>
   rw [e4] at e3
   cases e3
   rcases wn (show dn (Sum.inr k') v=true from e2) with ⟨i,t,z,_⟩|⟨y,t,z,z'⟩
   ·cases z
   ·cases z;exact ⟨k',rfl,t,z'⟩
 exact ⟨.ref s.heap.objs.size,_,I.laid (t':=tk) hk (ya _) (show aZ X.prog X.w _ h' _ (.lst (ks.map V.str)) from ⟨by rw [jV,<-lk,<-qw.length];exact hz,bu.toList,c',hv,by simpa using hS⟩),rfl,q _ I.fresh⟩
def jI:Al:=λxs st=>match xs with
 | [.ref n]=>match st[n]? with
  | some (.dic ks _)=>.ok (.ref st.length) (st++[.lst (ks.map PV.str)])
  | _=>qg xs st
 | _=>qg xs st
def CD {ρ:Ae}{H:Hp}:∀{ks:Ad},Rs K mg ρ H (ks.map PV.str) (ks.map V.str)
 | []=>rfl
 | k::ks=>⟨_,_,rfl,rfl,CD⟩
def ND (hc:X.calm=true):cg X (.type "list") jI:=by
 obtain ⟨r,h1,h2⟩:=Li (X:=X)
 refine ⟨_,h1.or (NC hc),fun ρ H st xs vs Q E s rx h=>?_⟩
 by_cases hx:∃n ks ys,xs=[.ref n]/\st[n]?=some (.dic ks ys)
 ·obtain ⟨n,ks,ys,rfl,e⟩:=hx
  have h:Out X.K X.mg ρ H (.ok (.ref st.length) (st++[.lst (ks.map PV.str)])) (gV X.K X.mg Q) E:=by
   simpa only [jI,e] using h
  obtain ⟨v,rfl,rv⟩:=Rs.one rx
  obtain ⟨a,vs,rfl,_,k1,_,k3⟩:=R.refD s rv e
  exact .inr ⟨a,ks,vs,rfl,k1,k3,λl hl=>Out.newList (xs:=ks.map PV.str) h s CD hl⟩
 ·refine .inl (h2 ρ H st xs vs Q E s rx ?_)
  have:jI xs st=qg xs st:=by
   unfold jI
   split
   ·rename_i n
    split
    ·rename_i ks ys e;exact absurd ⟨n,ks,ys,rfl,e⟩ hx
    ·rfl
   ·rfl
  rw [this] at h
  exact h
def NF {ss:List Stmt}:dc X Er ss yf:=bS.weak Hb λD σ H ⟨env,st,ρ,re,rs,h⟩=>h
end
section
variable {P:Program}{W:World}{A:Around}{s:Shared}{E:Aa}{K:Type} [DecidableEq K] {knd:KeyKind P W K}
def md {d:Addr} {kv:List (K×Value)} {x:Value} {T:String} {name:Str} (sl:Slot "dict" name "dict.__eq__") (hd:s.heap.DictOf knd d kv) (hx:s.TypeIs x T) (hs:isSubtype (.type T) (.type "dict")=pure false) (Q:Aa) (h:Q .notImplemented s) :
  wpAny (model P W) A (call (.builtin "dict.__eq__") [.ref d,x]) Q E s:=by
 refine jJ sl hd.typeIs PySem.F.entry_dict_eq ?_ (PySem.F.args_dict_eq_2 _ _)
 show wpAny _ _ (Builtin.Dict.dictSlotArgs "__eq__" ⟨[.ref d,x],[]⟩ >>= _) _ _ s
 refine zl ?_
 unfold Builtin.Dict.dictSlotArgs
 refine zl (wpAny_notOrdered_dict hd.typeIs ?_)
 show wpAny _ _ (pure (Value.ref d,x)) _ _ s
 refine zG ?_
 refine zl (wpAny_isInstance hx hs ?_)
 simp only [Bool.not_false,wD]
 exact zl (iU (zG ⟨_,rfl,h⟩))
def CF {d:Addr} {o:Obj} {b:Int} {u:Tok} {name:Str} (sl:Slot "int" name "int.__eq__") (ho:s.heap.get? d=some o) (hd:o.cls=.type "dict") {es:Array DictEntry} {ep:Nat} (hq':o.data=.dict es ep) (Q:Aa) (h:Q .notImplemented s) :
  wpAny (model P W) A (call (.builtin "int.__eq__") [.int b u,.ref d]) Q E s:=by
 refine jJ sl (typeIs_int s b u) PySem.F.entry_int_eq ?_ (PySem.F.args_int_eq_2 _ _)
 obtain ⟨hp,g,dd,tk,os⟩:=s
 obtain ⟨c,d1,d2,d3⟩:=o
 cases hd
 cases hq'
 wp_walk using AutoSeq1.wpAny_loadPart' ho,wpAny_load ho
 exact ⟨_,rfl,h⟩
def CG {d:Addr} {o:Obj} {b:Str} {u:Tok} {name:Str} (sl:Slot "str" name "str.__eq__") (ho:s.heap.get? d=some o) (hd:o.cls=.type "dict") {es:Array DictEntry} {ep:Nat} (hq':o.data=.dict es ep) (Q:Aa) (h:Q .notImplemented s) :
  wpAny (model P W) A (call (.builtin "str.__eq__") [.str b u,.ref d]) Q E s:=by
 refine jJ sl (typeIs_str s b u) PySem.F.entry_str_eq ?_ (PySem.F.args_str_eq_2 _ _)
 obtain ⟨hp,g,dd,tk,os⟩:=s
 obtain ⟨c,d1,d2,d3⟩:=o
 cases hd
 cases hq'
 wp_walk using AutoSeq1.wpAny_loadPart' ho,wpAny_load ho
 exact ⟨_,rfl,h⟩
def CH {d t:Addr} {o ot:Obj} {its:Array Value} {n:Nat} {name:Str} (sl:Slot "tuple" name "tuple.__eq__") (ht:s.heap.get? t=some ot) (hc:ot.cls=.type "tuple") (hq:ot.data=.seq its n) (ho:s.heap.get? d=some o) (hd:o.cls=.type "dict") {es:Array DictEntry} {ep:Nat} (hq':o.data=.dict es ep) (Q:Aa) (h:Q .notImplemented s) :
  wpAny (model P W) A (call (.builtin "tuple.__eq__") [.ref t,.ref d]) Q E s:=by
 refine jJ sl ⟨_,ht,hc⟩ PySem.F.entry_tuple_eq ?_ (PySem.F.args_tuple_eq_2 _ _)
 obtain ⟨hp,g,dd,tk,os⟩:=s
 obtain ⟨c,d1,d2,d3⟩:=o
 obtain ⟨c',Wg,Wh,Wi⟩:=ot
 cases hd
 cases hq'
 cases hc
 cases hq
 have f1:=PySem.F.sub_dict_tuple
 wp_walk using AutoSeq1.wpAny_loadPart' ht,AutoSeq1.wpAny_loadPart' ho
 exact ⟨_,rfl,h⟩
def dN.of_ref {d:Addr}{u':Value}{k:Bool}(km:Value.ref d≠u') (h:bZ P W A s (.ref d) u' k):dN P W A s (.ref d) u' k:=λE Q hq=>by
 unfold eqBool
 refine jU (wpAny_ite_split (λdM=>absurd (eq_of_beq dM) km) λ_=>?_)
 exact zl (h E _ (wC hq))
def dN.of_num {d:Addr}{b:Int}{u:Tok}{k:Bool}(h:bZ P W A s (.int b u) (.ref d) k):dN P W A s (.int b u) (.ref d) k:=λE Q hq=>by
 unfold eqBool
 refine jU (wpAny_ite_split (λdM=>absurd (eq_of_beq dM) nofun) λ_=>?_)
 exact zl (h E _ (wC hq))
def dN.of_txt {d:Addr}{b:Str}{u:Tok}{k:Bool}(h:bZ P W A s (.str b u) (.ref d) k):dN P W A s (.str b u) (.ref d) k:=λE Q hq=>by
 unfold eqBool
 refine jU (wpAny_ite_split (λdM=>absurd (eq_of_beq dM) nofun) λ_=>?_)
 exact zl (h E _ (wC hq))
def bZ.rec_num {d:Addr}{kv:List (K×Value)}(hd:s.heap.DictOf knd d kv) (b:Int) (u:Tok) (hu:A.units<cLine):bZ P W A s (.ref d) (.int b u) false:=λE Q h=>by
 obtain ⟨o,es,ep,ho,hx,fR,_⟩:=id hd
 have ty:=hd.typeIs
 obtain ⟨o',ho',hc⟩:=id ty
 rw [ho] at ho'
 cases ho'
 exact SeqAt.rc_eq_decline_or (k:=false) ty (typeIs_int s b u) (by decide) PySem.F.sub_int_dict PySem.F.slot_dict_eq PySem.F.slot_int_eq_refl (md PySem.F.slot_dict_eq hd (typeIs_int s b u) PySem.F.sub_int_dict) (CF PySem.F.slot_int_eq_refl ho hc fR)
  (λ_ hq=>wpAny_of_eq (rfl:isSame (.ref d) (.int b u)=pure false) hq) (.inr hu) h
def bZ.num_rec {d:Addr}{kv:List (K×Value)}(hd:s.heap.DictOf knd d kv) (b:Int) (u:Tok) (hu:A.units<cLine):bZ P W A s (.int b u) (.ref d) false:=λE Q h=>by
 obtain ⟨o,es,ep,ho,hx,fR,_⟩:=id hd
 have ty:=hd.typeIs
 obtain ⟨o',ho',hc⟩:=id ty
 rw [ho] at ho'
 cases ho'
 exact SeqAt.rc_eq_decline_or (k:=false) (typeIs_int s b u) ty (by decide) PySem.F.sub_dict_int PySem.F.slot_int_eq PySem.F.slot_dict_eq_refl (CF PySem.F.slot_int_eq ho hc fR) (md PySem.F.slot_dict_eq_refl hd (typeIs_int s b u) PySem.F.sub_int_dict)
  (λ_ hq=>wpAny_of_eq (rfl:isSame (.int b u) (.ref d)=pure false) hq) (.inr hu) h
def bZ.rec_txt {d:Addr}{kv:List (K×Value)}(hd:s.heap.DictOf knd d kv) (b:Str) (u:Tok) (hu:A.units<cLine):bZ P W A s (.ref d) (.str b u) false:=λE Q h=>by
 obtain ⟨o,es,ep,ho,hx,fR,_⟩:=id hd
 have ty:=hd.typeIs
 obtain ⟨o',ho',hc⟩:=id ty
 rw [ho] at ho'
 cases ho'
 exact SeqAt.rc_eq_decline_or (k:=false) ty (typeIs_str s b u) (by decide) PySem.F.sub_str_dict PySem.F.slot_dict_eq PySem.F.slot_str_eq_refl (md PySem.F.slot_dict_eq hd (typeIs_str s b u) PySem.F.sub_str_dict) (CG PySem.F.slot_str_eq_refl ho hc fR)
  (λ_ hq=>wpAny_of_eq (rfl:isSame (.ref d) (.str b u)=pure false) hq) (.inr hu) h
def bZ.txt_rec {d:Addr}{kv:List (K×Value)}(hd:s.heap.DictOf knd d kv) (b:Str) (u:Tok) (hu:A.units<cLine):bZ P W A s (.str b u) (.ref d) false:=λE Q h=>by
 obtain ⟨o,es,ep,ho,hx,fR,_⟩:=id hd
 have ty:=hd.typeIs
 obtain ⟨o',ho',hc⟩:=id ty
 rw [ho] at ho'
 cases ho'
 exact SeqAt.rc_eq_decline_or (k:=false) (typeIs_str s b u) ty (by decide) PySem.F.sub_dict_str PySem.F.slot_str_eq PySem.F.slot_dict_eq_refl (CG PySem.F.slot_str_eq ho hc fR) (md PySem.F.slot_dict_eq_refl hd (typeIs_str s b u) PySem.F.sub_str_dict)
  (λ_ hq=>wpAny_of_eq (rfl:isSame (.str b u) (.ref d)=pure false) hq) (.inr hu) h
def mf {d t:Addr}{kv:List (K×Value)}{its:Array Value}(hd:s.heap.DictOf knd d kv) (ht:s.heap.IsTuple t its):d≠t:=λe=>by
 subst e
 obtain ⟨o,ho,hc⟩:=hd.typeIs
 obtain ⟨o2,ho2,fC,_⟩:=ht
 rw [ho] at ho2
 cases ho2
 rw [hc] at fC
 exact absurd fC (by simp)
def bZ.rec_row {d t:Addr}{kv:List (K×Value)}{its:Array Value}(hd:s.heap.DictOf knd d kv) (ht:s.heap.IsTuple t its) (hu:A.units<cLine):bZ P W A s (.ref d) (.ref t) false:=λE Q h=>by
 have ne:=mf hd ht
 obtain ⟨o,es,ep,ho,hx,fR,_⟩:=id hd
 have ty:=hd.typeIs
 obtain ⟨o',ho',hc⟩:=id ty
 rw [ho] at ho'
 cases ho'
 obtain ⟨ot,gM,kK,n,uD⟩:=id ht
 exact SeqAt.rc_eq_decline_or (k:=false) ty ⟨_,gM,kK⟩ (by decide) PySem.F.sub_tuple_dict PySem.F.slot_dict_eq PySem.F.slot_tuple_eq_refl (md PySem.F.slot_dict_eq hd ⟨_,gM,kK⟩ PySem.F.sub_tuple_dict) (CH PySem.F.slot_tuple_eq_refl gM kK uD ho hc fR)
  (λ_ hq=>wpAny_isSame_ref_other ne ho gM (by rw [hc];simp) hq) (.inr hu) h
def bZ.row_rec {d t:Addr}{kv:List (K×Value)}{its:Array Value}(hd:s.heap.DictOf knd d kv) (ht:s.heap.IsTuple t its) (hu:A.units<cLine):bZ P W A s (.ref t) (.ref d) false:=λE Q h=>by
 have ne:=mf hd ht
 obtain ⟨o,es,ep,ho,hx,fR,_⟩:=id hd
 have ty:=hd.typeIs
 obtain ⟨o',ho',hc⟩:=id ty
 rw [ho] at ho'
 cases ho'
 obtain ⟨ot,gM,kK,n,uD⟩:=id ht
 exact SeqAt.rc_eq_decline_or (k:=false) ⟨_,gM,kK⟩ ty (by decide) PySem.F.sub_dict_tuple PySem.F.slot_tuple_eq PySem.F.slot_dict_eq_refl (CH PySem.F.slot_tuple_eq gM kK uD ho hc fR) (md PySem.F.slot_dict_eq_refl hd ⟨_,gM,kK⟩ PySem.F.sub_tuple_dict)
  (λ_ hq=>SeqAt.wpAny_isSame_ref_other' ne.symm gM ho (by rw [hc];simp) hq) (.inr hu) h
inductive cq (P:Program) (W:World) (A:Around) (s:Shared) (kb:List (K×Value)):List (K×Value)->Bool->Prop
 | nil:cq P W A s kb [] true
 | miss {k:K} {v:Value} {r:List (K×Value)} (h:valueAt kb k=none):cq P W A s kb ((k,v)::r) false
 | hit {k:K} {v y:Value} {r:List (K×Value)} {e b:Bool} (h:valueAt kb k=some y) (he:dN P W A s v y e) (hr:cq P W A s kb r b):cq P W A s kb ((k,v)::r) (e&&b)
def cq.inv {kb r:List (K×Value)}{k:K}{v:Value}{b:Bool}(h:cq P W A s kb ((k,v)::r) b):(valueAt kb k=none/\b=false)\/∃y e c,valueAt kb k=some y/\dN P W A s v y e/\cq P W A s kb r c/\b=(e&&c):=by
 cases h with
 | miss h=>exact .inl ⟨h,rfl⟩
 | hit h he hr=>exact .inr ⟨_,_,_,h,he,hr,rfl⟩
def qx {nm:String}{a b:Addr}{ka kb:List (K×Value)}{r:Bool}{Q:Bool->Shared->Prop}(la:(a==sysModules)=false) (lb:(b==sysModules)=false) (da:s.heap.DictOf knd a ka) (db:s.heap.DictOf knd b kb)
  (hits:ka.length=kb.length->cq P W A s kb ka r) (h:Q (ka.length==kb.length&&r) s):wpAny (model P W) A (Builtin.Dict.samePairs nm a b) Q E s:=by
 obtain ⟨oa,ea,na,ga,_,qa,ha,pa,_⟩:=da
 obtain ⟨ob,eb,nb,gb,_,qb,hb,pb,_⟩:=db
 have za:ka.length=ea.size:=by rw [<-pa.length];exact Array.length_toList
 have zb:kb.length=eb.size:=by rw [<-pb.length];exact Array.length_toList
 have look:∀k,findBy knd.is eb k=valueAt kb k:=λk=>by
  rw [<-pb.find k]
  clear zb pb hb qb gb
  obtain ⟨l⟩:=eb
  simp [findBy]
 rw [za,zb] at h
 unfold Builtin.Dict.samePairs Builtin.Dict.showsAll
 rw [zF (by rw [la];decide),zF (by rw [lb];decide)]
 refine zl (zG (zl (zG (zl (wpAny_dictEntries ga qa ?_)))))
 dsimp only
 refine zl (wpAny_dictEntries gb qb ?_)
 by_cases hz:ea.size=eb.size
 ·have h':Q r s:=by simpa [hz] using h
  have hh:=hits (by rw [za,zb];exact hz)
  rw [zF (by rw [hz];simp)]
  refine zl (wpAny_dictEpoch ga qa (zl ?_))
  rw [Std.Legacy.Range.forIn_eq_forIn_range']
  simp only [Std.Legacy.Range.size,Nat.sub_zero,Nat.add_sub_cancel,Nat.div_one]
  refine wpAny_forIn_list _ (λrest q s'=>s'=s/\q=(none,())/\∃i,rest=List.range' i (ea.size-i)/\i<=ea.size/\cq P W A s kb (ka.drop i) r) _ ?_ ?_ _ _ ⟨rfl,rfl,0,by simp,jk _,hh⟩
  ·rintro x rest q s' ⟨rfl,rfl,i,hr,hi,hp⟩
   have lt:i<ea.size:=by
    rcases Nat.lt_or_ge i ea.size with c|c
    ·exact c
    ·rw [Nat.sub_eq_zero_of_le c] at hr;simp at hr
   have e0:ea.size-i=(ea.size-(i+1))+1:=by omega
   rw [e0,List.range'_succ] at hr
   injection hr with hx fI
   subst hx
   refine zl (wpAny_dictEntries ga qa ?_)
   rw [Array.getElem?_eq_getElem lt]
   have lt':x<ka.length:=by rw [za];exact lt
   obtain ⟨k,v,kL⟩:∃k v,ka[x]=(k,v):=⟨_,_,rfl⟩
   have uE:ka.drop x=(k,v)::ka.drop (x+1):=by rw [<-kL];exact jK lt'
   obtain ⟨gg,CJ⟩:=pa.get? (i:=x) (e:=ea[x]) (k:=k) (v:=v) (by rw [Array.getElem?_toList];exact Array.getElem?_eq_getElem lt) (by rw [yu lt',kL])
   obtain ⟨k',uF,hs⟩:=ha ea[x] (Array.getElem_mem lt)
   rw [knd.inj _ _ _ uF gg] at hs
   rw [uE] at hp
   show wpAny _ _ (holding [ea[x].key,ea[x].val] _ >>= _) _ _ _
   rw [hs]
   refine zl (jU (zl (wpAny_dictFind_of gg gb qb hb ?_)))
   cases hj:eb.findIdx? λe=>knd.is k e.key with
   | none =>
    have hn:valueAt kb k=none:=by rw [<-look k,findBy_of_findIdx?,hj]
    rcases hp.inv with ⟨_,er⟩|⟨y,_,_,hy,_⟩
    ·rw [er] at h'
     refine zG ?_
     show wpAny _ _ (if (!false)=true then _ else _) _ _ _
     rw [zA (by decide)]
     exact zG (zG h')
    ·rw [hn] at hy;exact nomatch hy
   | some j =>
    obtain ⟨jl,_,_⟩:=Array.findIdx?_eq_some_iff_getElem.mp hj
    have pH:valueAt kb k=some eb[j].val:=by
     rw [<-look k,findBy_of_findIdx?,hj]
     simp [Array.getElem?_eq_getElem jl]
    refine zl (wpAny_dictEntries gb qb ?_)
    rw [Array.getElem?_eq_getElem jl]
    rcases hp.inv with ⟨hn,_⟩|⟨y,e,c,hy,he,CK,er⟩
    ·rw [pH] at hn;exact nomatch hn
    ·have ey:eb[j].val=y:=Option.some.inj (pH.symm.trans hy)
     rw [<-ey,<-CJ] at he
     refine jU (he _ _ ?_)
     cases e with
     | false =>
      rw [er,Bool.false_and] at h'
      show wpAny _ _ (if (!false)=true then _ else _) _ _ _
      rw [zA (by decide)]
      exact zG (zG h')
     | true =>
      rw [Bool.true_and] at er
      rw [<-er] at CK
      show wpAny _ _ (if (!true)=true then _ else _) _ _ _
      rw [zF (by decide)]
      refine zl (wpAny_dictEpoch ga qa ?_)
      rw [zF (by simp)]
      exact zG ⟨rfl,rfl,x+1,fI,lt,CK⟩
  ·rintro q s' ⟨rfl,rfl,i,hr,hi,hp⟩
   have NG:i=ea.size:=by
    rcases Nat.lt_or_ge i ea.size with c|c
    ·have e:ea.size-i=(ea.size-(i+1))+1:=by omega
     rw [e,List.range'_succ] at hr;exact nomatch hr
    ·omega
   refine zG ?_
   rw [NG,<-za,List.drop_length] at hp
   cases hp
   exact h'
 ·rw [zA (by simpa using hz)]
  have hf:(ea.size==eb.size)=false:=by simpa using hz
  rw [hf,Bool.false_and] at h
  exact zl (iU (zG h))
def bZ.recs {a b:Addr}{ka kb:List (K×Value)}{r:Bool}(la:(a==sysModules)=false) (lb:(b==sysModules)=false) (da:s.heap.DictOf knd a ka) (db:s.heap.DictOf knd b kb) (hu:A.units<cLine)
  (hits:ka.length=kb.length->cq P W A.in1 s kb ka r):bZ P W A s (.ref a) (.ref b) (ka.length==kb.length&&r):=λE Q h=>by
 refine wpAny_richCompare_same_room (op:=.Eq) da.typeIs db.typeIs PySem.F.slot_dict_eq (jJ PySem.F.slot_dict_eq da.typeIs PySem.F.entry_dict_eq ?_ (PySem.F.args_dict_eq_2 _ _)) hu
 show wpAny _ _ (Builtin.Dict.dictSlotArgs "__eq__" ⟨[.ref a,.ref b],[]⟩ >>= _) _ _ s
 refine zl ?_
 unfold Builtin.Dict.dictSlotArgs
 refine zl (wpAny_notOrdered_dict da.typeIs ?_)
 show wpAny _ _ (pure (Value.ref a,Value.ref b)) _ _ s
 refine zG (zl (wpAny_isInstance (T := "dict") db.typeIs PySem.F.sub_dict_dict ?_))
 simp only [Bool.not_true,Bool.false_eq_true,if_false]
 refine zl (zG (zl (zG (zl (qx la lb da db hits ?_)))))
 refine zG ⟨_,rfl,(λx=>nomatch x),?_⟩
 simpa using h
end
section
variable {P:Program}{W:World}
end
def uG:Option SO->Bool
 | some (.dic _ _)=>true
 | _=>false
def eW (st:ae):PV->Option Nat
 | .int _=>some 0
 | .str _=>some 1
 | .tup _=>some 2
 | .ref a=>if uG st[a]?=true then some 3 else none
 | _=>none
def lu (f:PV->PV->Option Bool):Option SO->Option SO->Option Bool
 | some (.dic ks xs),some (.dic cy cx)=>if ks.Nodup/\ks.length=xs.length then if ks.length=cy.length then de f cy cx ks xs else some false else none
 | _,_=>none
def uH:Option Nat->Option Nat->Option Bool
 | some i,some j=>if i=j then none else some false
 | _,_=>none
def eqT (st:ae):Nat->PV->PV->Option Bool
 | 0,_,_=>none
 | n+1,x,y=>match x,y with
  | .int a,.int b=>some (a==b)
  | .str a,.str b=>some (a==b)
  | .tup xs,.tup ys=>eK (eqT st n) xs ys
  | .ref a,.ref b=>lu (eqT st n) st[a]? st[b]?
  | x,y=>uH (eW st x) (eW st y)
section
variable {X:Cx}{Er:XK}{K:Frag}{mg:Ab}{ρ:Ae}{pins:Ac}{σ:L2.St}{H:Hp}{s:Shared}{st:ae}
inductive Kn (K:Frag) (mg:Ab) (ρ:Ae) (H:Hp) (st:ae):PV->V->Nat->Prop
 | num (i:Int):Kn K mg ρ H st (.int i) (.int i) 0
 | txt (z:Str):Kn K mg ρ H st (.str z) (.str z) 1
 | row {xs:An} {a:Addr} {vs:List V} (h:ba K H a vs) (r:Rs K mg ρ H xs vs):Kn K mg ρ H st (.tup xs) (.ref a) 2
 | rec_ {n:Nat} {a:Addr} {ks:Ad} {xs:An} {vs:List V} (e:st[n]?=some (.dic ks xs)) (ha:ρ[n]?=some a) (h:H a=some (.dK (kz ks vs))) (r:Rs K mg ρ H xs vs) (l:ks.length=vs.length):Kn K mg ρ H st (.ref n) (.ref a) 3
def Kn.of (S:a0 K mg ρ H st) {x:PV}{v:V}{i:Nat}(r:R K mg ρ H x v) (h:eW st x=some i):Kn K mg ρ H st x v i:=by
 cases x with
 | int j=>cases h;cases r;exact .num j
 | str z=>cases h;cases r;exact .txt z
 | tup xs=>cases h;obtain ⟨a,vs,rfl,h1,h2⟩:=r;exact .row h1 h2
 | ref n =>
  simp only [eW] at h
  split at h
  ·rename_i hd
   cases h
   cases e:st[n]? with
   | none=>rw [e] at hd;cases hd
   | some so =>
    cases so with
    | dic ks xs =>
     obtain ⟨a,vs,rfl,ha,k1,k2,k3⟩:=R.refD S r e
     exact .rec_ e ha k1 k2 k3
    | lst _=>rw [e] at hd;cases hd
    | ins _ _ _=>rw [e] at hd;cases hd
    | fdi _ _=>rw [e] at hd;cases hd
    | dit _ _=>rw [e] at hd;cases hd
  ·cases h
 | _=>cases h
def NH (I:Inv X pins σ H s) {x y:PV}{v:V}{i j:Nat}(hx:Kn X.K mg ρ H st x v i) (hy:Kn X.K mg ρ H st y v j):i=j:=by
 cases hx with
 | num=>cases hy;rfl
 | txt=>cases hy;rfl
 | row h1 r1 =>
  cases hy with
  | row=>rfl
  | rec_ e ha h2 =>
   obtain ⟨_,_,kv,_,d⟩:=jt I.hok (.inl h2)
   obtain ⟨its,_,p,_⟩:=I.tuple h1
   exact absurd rfl (mf d p)
 | rec_ e ha h2 =>
  cases hy with
  | rec_=>rfl
  | row h1 r1 =>
   obtain ⟨_,_,kv,_,d⟩:=jt I.hok (.inl h2)
   obtain ⟨its,_,p,_⟩:=I.tuple h1
   exact absurd rfl (mf d p)
def NJ (I:Inv X pins σ H s) {x y:PV}{v w:V}{u u':Value}{i j:Nat}{A:Around}(hx:Kn X.K mg ρ H st x v i) (hy:Kn X.K mg ρ H st y w j) (rv:RelV v u) (rw:RelV w u') (cL:i≠j) (hu:A.units<cLine):dN X.prog X.w A s u u' false/\bZ X.prog X.w A s u u' false:=by
 cases hx with
 | num a =>
  obtain ⟨t,rfl⟩:=rv
  cases hy with
  | num=>exact absurd rfl cL
  | txt b=>obtain ⟨t',rfl⟩:=rw;exact ⟨λE Q q=>SeqAt.EqAt.int_str a t b t' _ _ E Q q,λE Q q=>SeqAt.RcAt.int_str a t b t' _ _ E Q q⟩
  | row h1 r1 =>
   cases rw
   obtain ⟨its,_,p,_⟩:=I.tuple h1
   exact ⟨λE Q q=>SeqAt.EqAt.int_tuple a t p hu _ _ E Q q,λE Q q=>SeqAt.RcAt.int_tuple a t p hu _ _ E Q q⟩
  | rec_ e ha h2 =>
   cases rw
   obtain ⟨_,_,kv,_,d⟩:=jt I.hok (.inl h2)
   exact ⟨.of_num (.num_rec d a t hu),.num_rec d a t hu⟩
 | txt a =>
  obtain ⟨t,rfl⟩:=rv
  cases hy with
  | txt=>exact absurd rfl cL
  | num b=>obtain ⟨t',rfl⟩:=rw;exact ⟨λE Q q=>SeqAt.EqAt.str_int a t b t' _ _ E Q q,λE Q q=>SeqAt.RcAt.str_int a t b t' _ _ E Q q⟩
  | row h1 r1 =>
   cases rw
   obtain ⟨its,_,p,_⟩:=I.tuple h1
   exact ⟨λE Q q=>SeqAt.EqAt.str_tuple a t p hu _ _ E Q q,λE Q q=>SeqAt.RcAt.str_tuple a t p hu _ _ E Q q⟩
  | rec_ e ha h2 =>
   cases rw
   obtain ⟨_,_,kv,_,d⟩:=jt I.hok (.inl h2)
   exact ⟨.of_txt (.txt_rec d a t hu),.txt_rec d a t hu⟩
 | row h0 r0 =>
  cases rv
  obtain ⟨its,_,p,_⟩:=I.tuple h0
  cases hy with
  | row=>exact absurd rfl cL
  | num b=>obtain ⟨t',rfl⟩:=rw;exact ⟨λE Q q=>SeqAt.EqAt.tuple_int b t' p hu _ _ E Q q,λE Q q=>SeqAt.RcAt.tuple_int b t' p hu _ _ E Q q⟩
  | txt b=>obtain ⟨t',rfl⟩:=rw;exact ⟨λE Q q=>SeqAt.EqAt.tuple_str b t' p hu _ _ E Q q,λE Q q=>SeqAt.RcAt.tuple_str b t' p hu _ _ E Q q⟩
  | rec_ e ha h2 =>
   cases rw
   obtain ⟨_,_,kv,_,d⟩:=jt I.hok (.inl h2)
   have ne:=mf d p
   exact ⟨.of_ref (λz=>ne (by injection z with z;exact z.symm)) (.row_rec d p hu),.row_rec d p hu⟩
 | rec_ e0 Wj h0 =>
  cases rv
  obtain ⟨_,_,kv,_,d⟩:=jt I.hok (.inl h0)
  cases hy with
  | rec_=>exact absurd rfl cL
  | num b=>obtain ⟨t',rfl⟩:=rw;exact ⟨.of_ref nofun (.rec_num d b t' hu),.rec_num d b t' hu⟩
  | txt b=>obtain ⟨t',rfl⟩:=rw;exact ⟨.of_ref nofun (.rec_txt d b t' hu),.rec_txt d b t' hu⟩
  | row h1 r1 =>
   cases rw
   obtain ⟨its,_,p,_⟩:=I.tuple h1
   have ne:=mf d p
   exact ⟨.of_ref (λz=>ne (by injection z)) (.rec_row d p hu),.rec_row d p hu⟩
def NK {a b:Option Nat}{k:Bool}(h:uH a b=some k):∃i j,a=some i/\b=some j/\i≠j/\k=false:=by
 unfold uH at h
 split at h
 ·split at h
  ·cases h
  ·rename_i i j c;cases h;exact ⟨i,j,rfl,rfl,c,rfl⟩
 ·cases h
inductive mh (st:ae) (f:PV->PV->Option Bool):PV->PV->Bool->Prop
 | num (a b:Int):mh st f (.int a) (.int b) (a==b)
 | txt (a b:Str):mh st f (.str a) (.str b) (a==b)
 | row {xs ys:An} {k:Bool} (h:eK f xs ys=some k):mh st f (.tup xs) (.tup ys) k
 | rec_ {a b:Nat} {k:Bool} (h:lu f st[a]? st[b]?=some k):mh st f (.ref a) (.ref b) k
 | apart {x y:PV} {i j:Nat} (hx:eW st x=some i) (hy:eW st y=some j) (h:i≠j):mh st f x y false
def zih {n:Nat}{x y:PV}{k:Bool}(h:eqT st (n+1) x y=some k):mh st (eqT st n) x y k:=by
 unfold eqT at h
 split at h
 ·cases h;exact .num _ _
 ·cases h;exact .txt _ _
 ·exact .row h
 ·exact .rec_ h
 ·obtain ⟨i,j,h1,h2,h3,rfl⟩:=NK h
  exact .apart h1 h2 h3
def CL {f:PV->PV->Option Bool}{a b:Option SO}{k:Bool}(h:lu f a b=some k):∃ks xs cy cx,a=some (.dic ks xs)/\b=some (.dic cy cx)/\ks.Nodup/\ks.length=xs.length/\((ks.length=cy.length/\de f cy cx ks xs=some k)\/(ks.length≠cy.length/\k=false)):=by
 unfold lu at h
 split at h
 ·rename_i ks xs cy cx
  split at h
  ·rename_i c
   split at h
   ·rename_i c';exact ⟨_,_,_,_,rfl,rfl,c.1,c.2,.inl ⟨c',h⟩⟩
   ·rename_i c';cases h;exact ⟨_,_,_,_,rfl,rfl,c.1,c.2,.inr ⟨c',rfl⟩⟩
  ·cases h
 ·cases h
def CM (I:Inv X pins σ H s) (S:a0 X.K mg ρ H st):∀(n:Nat) (x y:PV) (v:V) (b:Bool),eqT st n x y=some b->R X.K mg ρ H x v->R X.K mg ρ H y v->b=true:=by
 intro n
 induction n with
 | zero=>intro x y v b h;cases h
 | succ n ih =>
  intro x y v b h rx ry
  cases zih h with
  | num a c=>cases rx;cases ry;simp
  | txt a c=>cases rx;cases ry;simp
  | row h0 =>
   obtain ⟨a,vs,rfl,h1,h2⟩:=rx
   obtain ⟨a',ws,e,h3,h4⟩:=ry
   cases e
   have:=I.tuple_inj h1 h3
   subst this
   exact Cy (λx y v b=>ih x y v b) h0 h2 h4
  | @rec_ i j _ h0 =>
   obtain ⟨a,rfl,h1⟩:=rx
   obtain ⟨a',e,h2⟩:=ry
   cases e
   obtain rfl:=Nw S.nd h1 h2
   obtain ⟨ks,xs,cy,cx,e1,e2,nd,hl,hc⟩:=CL h0
   rw [e1] at e2
   cases e2
   obtain ⟨vs,_,k2,_⟩:=S.addr e1 h1
   rcases hc with ⟨_,hc⟩|⟨hc,_⟩
   ·exact Cz (λx v b e r=>ih x x v b e r r) (CA nd) hc k2
   ·exact absurd rfl hc
  | apart hx hy cL=>exact absurd (NH I (Kn.of S rx hx) (Kn.of S ry hy)) cL
def CN {A:Around}{f:PV->PV->Option Bool}(hf:∀x y v w u u' b,f x y=some b->R K mg ρ H x v->R K mg ρ H y w->RelV v u->RelV w u'->dN X.prog X.w A s u u' b) {cy:Ad}{cx:An}{ws:List V}{kb:List (Key×Value)}(r':Rs K mg ρ H cx ws) (CO:KV (kz cy ws) kb) :
  ∀{ks:Ad} {xs:An} {vs:List V} {ka:List (Key×Value)} {b:Bool},ks.length=vs.length->Rs K mg ρ H xs vs->KV (kz ks vs) ka->de f cy cx ks xs=some b->cq X.prog X.w A s kb ka b
 | [],xs,[],ka,b,_,_,kv,h=>by
  have:b=true:=by cases xs<;>(cases h;rfl)
  subst this
  cases kv
  exact .nil
 | [],xs,_::_,ka,b,hl,_,_,_=>by simp at hl
 | k::ks,xs,[],ka,b,hl,_,_,_=>by simp at hl
 | k::ks,xs,v::vs,ka,b,hl,r,kv,h=>by
  obtain ⟨u,Wk,rfl,ru,NL⟩:=Nz kv
  cases xs with
  | nil=>cases r
  | cons x xs =>
   obtain ⟨v',Wl,e,r1,r2⟩:=r
   cases e
   simp only [de] at h
   have hv:=CO.val (Sum.inr k)
   rw [qq] at hv
   cases hl2:(cy.zip cx).lookup k with
   | none =>
    rw [hl2] at h
    cases h
    rw [CB r' hl2] at hv
    cases hu:valueAt kb (Sum.inr k) with
    | none=>exact .miss hu
    | some _=>rw [hu] at hv;exact (show False from hv).elim
   | some y =>
    rw [hl2] at h
    simp only at h
    cases h1:f x y with
    | none=>rw [h1] at h;cases h
    | some a =>
     cases h2:de f cy cx ks xs with
     | none=>rw [h1,h2] at h;cases h
     | some c =>
      rw [h1,h2] at h
      cases h
      obtain ⟨w,hw,rw'⟩:=iq r' hl2
      rw [hw] at hv
      cases hu:valueAt kb (Sum.inr k) with
      | none=>rw [hu] at hv;exact (show False from hv).elim
      | some u' =>
       rw [hu] at hv
       exact .hit hu (hf x y v w u u' a h1 r1 rw' ru hv) (CN hf r' CO (by simpa using hl) r2 NL h2)
def NN (I:Inv X pins σ H s) (S:a0 X.K mg ρ H st):∀(n:Nat) (x y:PV) (v w:V) (u u':Value) (b:Bool) (A:Around),eqT st n x y=some b->R X.K mg ρ H x v->R X.K mg ρ H y w->RelV v u->RelV w u'->A.units+n<cLine ->
  dN X.prog X.w A s u u' b/\bZ X.prog X.w A s u u' b:=by
 intro n
 induction n with
 | zero=>intro x y v w u u' b A h;cases h
 | succ n ih =>
  intro x y v w u u' b A h rx ry rv rw hu
  cases zih h with
  | num a c=>cases rx;cases ry;obtain ⟨t,rfl⟩:=rv;obtain ⟨t',rfl⟩:=rw;exact ⟨λE Q q=>SeqAt.EqAt.int_int a t c t' _ _ E Q q,λE Q q=>SeqAt.RcAt.int_int a t c t' _ _ E Q q⟩
  | txt a c=>cases rx;cases ry;obtain ⟨t,rfl⟩:=rv;obtain ⟨t',rfl⟩:=rw;exact ⟨λE Q q=>SeqAt.EqAt.str_str a t c t' _ _ E Q q,λE Q q=>SeqAt.RcAt.str_str a t c t' _ _ E Q q⟩
  | row h0 =>
   obtain ⟨a,vs,rfl,h1,h2⟩:=id rx
   obtain ⟨a',ws,rfl,h3,h4⟩:=id ry
   cases rv
   cases rw
   obtain ⟨its,r1,p1,_⟩:=I.tuple h1
   obtain ⟨aU,r2,p2,_⟩:=I.tuple h3
   obtain ⟨e,he,hb⟩:=Cw h0
   have it:=NA (G:=dN X.prog X.w A.in1 s) (λx y v w u u' b e r1 r2 r3 r4=>(ih x y v w u u' b A.in1 e r1 r2 r3 r4 (by rw [qf];omega)).1) h2 h4 r1 r2 he
   have eb:((List.range (min its.toArray.size aU.toArray.size)).all e&&its.toArray.size==aU.toArray.size)=b:=by
    rw [h2.len,h4.len,r1.length,r2.length] at hb
    simpa using hb
   have rc:bZ X.prog X.w A s (.ref a) (.ref a') b:=by
    rw [<-eb]
    exact bZ.tuples (show s.heap.IsTuple a its.toArray from p1) (show s.heap.IsTuple a' aU.toArray from p2) (by omega) it
   refine ⟨?_,rc⟩
   by_cases dM:a=a'
   ·subst dM
    rw [CM I S (n+1) _ _ _ _ h rx ry]
    exact λE Q q=>SeqAt.EqAt.same _ _ _ E Q q
   ·exact .of_refs dM rc
  | @rec_ i j _ h0 =>
   obtain ⟨a,rfl,h1⟩:=id rx
   obtain ⟨a',rfl,h2⟩:=id ry
   cases rv
   cases rw
   obtain ⟨ks,xs,cy,cx,e1,e2,nd,hl,hc⟩:=CL h0
   obtain ⟨vs,k1,k2,k3⟩:=S.addr e1 h1
   obtain ⟨ws,k4,k5,k6⟩:=S.addr e2 h2
   obtain ⟨_,s1,ka,CP,da⟩:=jt I.hok (.inl k1)
   obtain ⟨_,s2,kb,CQ,db⟩:=jt I.hok (.inl k4)
   have la:ka.length=ks.length:=by rw [<-CP.length];simp [kz,k3]
   have lb:kb.length=cy.length:=by rw [<-CQ.length];simp [kz,k6]
   have both:bZ X.prog X.w A s (.ref a) (.ref a') b:=by
    rcases hc with ⟨qy,hc⟩|⟨qy,rfl⟩
    ·have hits:ka.length=kb.length->cq X.prog X.w A.in1 s kb ka b:=λ_=>CN (λx y v w u u' b e r1 r2 r3 r4=>(ih x y v w u u' b A.in1 e r1 r2 r3 r4 (by rw [qf];omega)).1) k5 CQ k3 k2 CP hc
     have m8:(ka.length==kb.length&&b)=b:=by rw [la,lb,qy];simp
     rw [<-m8]
     exact bZ.recs s1 s2 da db (by omega) hits
    ·have m8:(ka.length==kb.length&&true)=false:=by rw [la,lb];simpa using qy
     rw [<-m8]
     exact bZ.recs s1 s2 da db (by omega) λz=>absurd (by rw [<-la,<-lb];exact z) qy
   refine ⟨?_,both⟩
   by_cases dM:a=a'
   ·subst dM
    rw [CM I S (n+1) _ _ _ _ h rx ry]
    exact λE Q q=>SeqAt.EqAt.same _ _ _ E Q q
   ·exact .of_refs dM both
  | apart hx hy cL=>exact NJ I (Kn.of S rx hx) (Kn.of S ry hy) rv rw cL (by omega)
def iA:Am:=λx y st=>match eqT st 150 x y with
 | some b=>.ok (.bl b) st
 | none=>.stuck
def NP (K:Frag) (mg:Ab):R2:=λv w H Q=>∃ρ st x y b,a0 K mg ρ H st/\eqT st 150 x y=some b/\R K mg ρ H x v/\R K mg ρ H y w/\Q (.bl b) H
def NQ (hu:X.A.units+200<cLine):bg X (compareOp .Eq) (NP X.K X.mg):=by
 intro pins s σ H x y v u Q I rx ry h
 obtain ⟨ρ,st,a,b,k,S,e,ra,rb,q⟩:=h
 exact (NN I S 150 a b x y v u k X.A e ra rb rx ry (by omega)).2 _ _ ⟨.bl k,H,I,rfl,q⟩
def zeG (hu:X.A.units+200<cLine):bC X .Eq iA:=⟨_,NQ hu,fun ρ H st x y v w Q E s rx ry h=>by
 unfold iA at h
 cases e:eqT st 150 x y with
 | none=>rw [e] at h;exact h.elim
 | some b=>rw [e] at h;exact ⟨ρ,st,x,y,b,s,e,rx,ry,h.now s _ rfl⟩⟩
end
section
variable {X:Cx}{Er:XK}{K:Frag}{mg:Ab}{ρ:Ae}{pins:Ac}{σ:L2.St}{H:Hp}{s:Shared}{st:ae}{o:Expr}{fo:Ai}{apos aV p0 Vw:Pos}
open Classical in
noncomputable def Vx (K:Frag) (mg:Ab) (ρ:Ae) (H:Hp) (st:ae) (ys:An) (x:PV) (u:Value):Bool:=decide (∃y v,y∈ys/\R K mg ρ H y v/\RelV v u/\eqT st 150 y x=some true)
open Classical in
end
end Mi
namespace L2
open PySem PySem.Spec PyProof.Rows
def NR (iy:Nat) (wi:TI) (te:TE):TS:=λD σ H=>wi σ H λJ H1=>i9 J te σ (λv H2=>D.nx (σ.set iy (some v)) H2) H1
def NS {X:Cx} {elt iter:Expr} {x y:Str} {px pos pos' e_:Pos} {scope:Scope} {wi:TI} {te:TE} {M:Ad} {iy:Nat} (hc:X.calm=true) (S:cO X.env.scope scope x) (eN:Hid scope M X.N) (bY:((".0" : Str)::x::M).Nodup)
  (hi:PI X (.Name x px) iter wi) (he:∀cl C af ai fp,PE (hW X M scope cl x C af ai fp (λ_ _=>False)) elt te) (oy:X.N.Nodup) (oz:X.N[iy]?=some y) (hy:Loc X.env.scope y) (oA:X.fn y=true\/X.env.scope.names.lookup y=some .local)
  (fS:swapsWith (.ListComp elt [⟨.Name x px,iter,[],0⟩] scope pos) (some (.Name y pos')) e_.line X.env=pure true) (hs:∀v,foldedSetIterable iter X.env v=pure v:=by intro _;rfl):PS X (.Assign [.Name y pos'] (.ListComp elt [⟨.Name x px,iter,[],0⟩] scope pos) e_) (NR iy wi te):=by
 intro pins s σ H Dn I h
 have hN:(x::M).Nodup:=(jC.mp bY).2
 have sH:(".0" : Str)∉M:=λz=>(jC.mp bY).1 (jh _ z)
 obtain ⟨cl,j_,cE,ia⟩:=AG X.env scope λp hp hf=>I.ok.has p.1 (.inl (S.free p hp hf))
 have ke:X.env.scope.kind=.function:=I.ok.kind
 rw [exec_Assign_Name_used _ _ _ _ fS]
 refine zl (wpAny_standAt ?_)
 rw [arm_evalThenUse_ListComp]
 refine zl (zl (wpAny_comprehension_free (Q:=λ_ s'=>wpAny (model X.prog X.w) X.A (pure ():Sem Unit) (λ_ s'=>wpAny (model X.prog X.w) X.A (pure .next:Sem Flow) (SP X pins Dn) X.xe s') X.xe s') (use:=some (assign (.Name y pos') X.env)) rfl hs j_ S.kind (λy hy hl=>(S.names y hy hl).1) ?_))
 refine aS (hi pins s σ H _ I h) λv s1 h1=>aS h1 λpE af h2=>?_
 obtain ⟨it,fp,tn,J,H2,e,I2,T,aK,f2,W,⟨m0,w0⟩,turn⟩:=h2
 subst e
 refine jN (wpAny_newFunctionEnv S.ncell (by intro y hy;simp at hy) (λau aD aB=>?_) S.kind)
 dsimp only at aD aB ⊢
 generalize hH2:af.heap.push { cls:=.type "list", dict:=none,data:=.seq ([]:Af).toArray }=G2 at aD aB ⊢
 have hC:G2.objs.size=af.heap.objs.size+1:=by rw [<-hH2,Heap.size_push]
 have f9:af.heap.objs.size≠G2.objs.size:=by rw [hC];exact yD (jP _)
 have AQ:af.heap.objs.size<=G2.objs.size:=by rw [hC];exact Nat.le_succ _
 have old:∀b o,af.heap.get? b=some o->au.get? b=some o:=λb o e=>by
  have hb:b≠G2.objs.size:=by rw [hC];exact yD (Nat.lt_succ_of_lt (yh e))
  exact aB.extBut b o hb (z9 _ (hH2▸z9 _ e))
 have cv:au.get? af.heap.objs.size=some { cls:=.type "list", data:=.seq (#[]:Array Value) 0 }:=aB.extBut _ _ f9 (z9 _ (hH2▸yB _ rfl))
 generalize hD:af.heap.objs.size=D at *
 generalize hCC:G2.objs.size=C at *
 have dG:∀{b:Nat} {o:Obj},af.heap.get? b=some o->b<D:=λe=>by rw [<-hD];exact yh e
 have nofr:∀b,D<=b->b∉cA X.stack:=λb hb z=>by
  rcases yL.mp (I2.stkSub b z) with q|q
  ·exact Az I2.lt hD hb q
  ·exact I2.nofs (by rw [hD];exact hb) q
 let E':Aa:=notedBy (model X.prog X.w) X.A (compEnvC scope cl C X.env) λe s'=>compPost (model X.prog X.w) X.A X.xe (some (assign (.Name y pos') X.env)) (λ_ s'=>wpAny (model X.prog X.w) X.A (pure ():Sem Unit) (λ_ s'=>wpAny (model X.prog X.w) X.A (pure .next:Sem Flow) (SP X pins Dn) X.xe s') X.xe s') (.ref D) C (.error e) s'
 let Y:Cx:=hW X M scope cl x C af H2 fp E'
 have c9:∀b∈fp,cD X pins H2 b:=f2
 have kf:Y.Ok:=by
  refine ⟨I2.ok.mod,S.kind,I2.ok.glob,I2.ok.blt,(by show af.heap.objs.size<=C;omega),λy z c h1 h2=>?_,λy hy=>?_,λy c hf=>?_,I2.ok.hd,I2.ok.frames,.inl rfl,λb hb=>?_,I2.bs,y8 I2.ok.bsz I2.sz,λb o hb hx=>?_,λb hb hx=>?_,I2.stack,I2.stkFree⟩
  ·exact I2.ok.inj y z c (cE y c h1) (cE z c h2)
  ·exact ia y (sC S ke hy)
  ·cases hf
  ·refine ⟨λz=>?_,λy c hy=>(c9 b hb).2.2.2.2.1 y c (cE y c hy)⟩
   obtain ⟨o,ho,_⟩:=T.obj 0 _ aK b hb
   exact i7 (dG ho) hC z
  ·rcases (c9 b hx).2.2.2.1 with z|z
   ·exact I2.ok.noex b o hb z
   ·exact AA (yh hb) I2.ok.bsz z
  ·rcases yL.mp (I2.stkSub b hx) with q|q
   ·exact (c9 b hb).2.1 q
   ·exact (c9 b hb).2.2.1 q
 have eS:∀{s':Shared} {H':Hp} {o:Obj},s'.heap.get? D=some o->H' D=none->(∀v,o.data ≠ .cell v)->∀p∈[(D,o)],s'.heap.get? p.1=some p.2/\H' p.1=none/\p.1≠Y.env.locals/\p.1∉Y.fs/\∀v,p.2.data ≠ .cell v:=λ{s' H' o} e1 e2 e3 p hp=>by
  have ep:p=(D,o):=by simpa using hp
  subst ep
  exact ⟨e1,e2,f9,nofr D (ya _),e3⟩
 have I0:Inv Y [(D,{ cls:=.type "list", data:=.seq (#[]:Array Value) 0 })] (none::σ) H2 { af with heap:=au,toks:=af.toks+([]:List (Str×Value)).length }:=by
  have fresh:∀b,D<=b->H2 b=none:=λb hb=>I2.hok.fresh (by rw [hD];exact hb)
  refine ⟨kf,rfl,I2.bare,Un.kept old,⟨_,aD,λi y v e1 e2 e3=>?_⟩,λy c hy=>?_,fresh C (by omega),λy c hy=>I2.freeC y c (cE y c hy),λp hp=>eS cv (fresh D (ya _)) (λv z=>by cases z) p hp,I2.hok.kept old,?_⟩
  ·cases i with
   | zero=>simp at e2
   | succ i =>
    have ng:M[i]?=some y:=by simpa [Y,hW] using e1
    have sI:X.N[i]?=some y:=by
     rcases eN.get ng with q|q
     ·exact q
     ·refine absurd ?_ q
      rcases e3 with e3|e3|e3<;>(obtain ⟨k0,hm,_⟩:=h_ e3;exact wE.mpr ⟨_,hm,rfl⟩)
    have sJ:σ[i]?=some (some v):=by simpa using e2
    have ib:¬(y=x\/y = ".0"):=λz=>by
     have hm:=lC ng
     rcases z with z|z
     ·rw [z] at hm
      exact (jC.mp hN).1 hm
     ·rw [z] at hm
      exact sH hm
    have cZ:(y,NameKind.free)∈scope.names:=by
     rcases e3 with e3|e3|e3
     ·exact absurd (AI S e3) ib
     ·exact sC S ke (.inl e3)
     ·exact sC S ke (.inr e3)
    have ni:X.env.scope.names.lookup y=some .cell:=S.free _ cZ rfl
    obtain ⟨m,hn,hl⟩:=I2.loc
    obtain ⟨u,r,l⟩:=hl i y v sI sJ (.inr (.inl ni))
    refine ⟨u,r,?_⟩
    rcases l with ⟨hk,_⟩|⟨_,c,lH,dq⟩
    ·have:X.env.kindOf y=some .cell:=ni
     rw [this] at hk;cases hk
    ·obtain ⟨c',cw⟩:=ia y cZ
     have:=cE y c' cw
     rw [lH] at this
     cases this
     refine .inr ⟨?_,c,cw,?_⟩
     ·rcases e3 with e3|e3|e3
      ·exact absurd (AI S e3) ib
      ·exact .inl e3
      ·exact .inr e3
     ·obtain ⟨o,ho,hd⟩:=dq
      exact ⟨o,old c o ho,hd⟩
  ·obtain ⟨v,o,ho,hd⟩:=I2.cell y c (cE y c hy)
   exact ⟨v,o,old c o ho,hd⟩
  ·show (none::σ).length=(x::M).length
   simp [I2.len,eN.1]
 have kg:∀{pl:Ac} {H':Hp},(∀p∈pl,p.1=D)->(∀b∈fp,H' b=none)->∀b∈fp,cD Y pl H' b:=λ{pl H'} bp hn b hb=>by
  obtain ⟨o,ho,_⟩:=T.obj 0 _ aK b hb
  refine ⟨hn b hb,λz=>?_,?_,.inl hb,(kf.exf b hb).2,λp hp z=>?_⟩
  ·exact i7 (dG ho) hC z
  ·exact kf.exfs b hb
  ·have hp':p∈pl:=by simpa [Y,hW] using hp
   exact AE (dG ho) (bp p hp') z
 have loop:codeAny (model X.prog X.w) X.A (.compLoop (.ListComp elt [⟨.Name x px,iter,[],0⟩] scope pos) 0 (.ref it) (.ref D) (compEnvC scope cl C X.env))
   (compPost (model X.prog X.w) X.A X.xe (some (assign (.Name y pos') X.env)) (λ_ s'=>wpAny (model X.prog X.w) X.A (pure ():Sem Unit) (λ_ s'=>wpAny (model X.prog X.w) X.A (pure .next:Sem Flow) (SP X pins Dn) X.xe s') X.xe s') (.ref D) C) { af with heap:=au,toks:=af.toks+([]:List (Str×Value)).length }:=by
  refine Jo (λn s'=>∃i ys H' its k,Inv Y [(D,{ cls:=.type "list", data:=.seq (its:Af).toArray k })] (none::σ) H' s'/\Vals ys its/\tn i s'.heap/\(∀b∈fp,H' b=none)/\W i n ys H') ?_ m0
   ⟨0,[],H2,[],0,I0,.nil,T.keep 0 _ _ aK (λb hb o e=>old b o e),λb hb=>(c9 b hb).1,w0⟩
  rintro n s3 ⟨i,ys,H3,its,k,I3,rv,aX,hG,w3⟩
  have fE:∀{o:Obj},∀p∈[(D,o)],p.1=D:=λ{o} p hp=>by
   have ep:p=(D,o):=by simpa using hp
   rw [ep]
  obtain ⟨gD,nD,_,_,_⟩:=I3.pin (D,_) (yX _ y3)
  rcases turn i n ys H3 w3 with ⟨stop,hz,q⟩|⟨go,hz,step⟩
  ·refine aS (T.done Y rfl rfl rfl hc i _ s3 _ H3 E' I3 (kg fE hG) aX stop) λr s4 ⟨hr,I4⟩=>?_
   subst hr
   obtain ⟨sL,kh,_,_,_⟩:=I4.pin (D,_) (yX _ y3)
   obtain ⟨m4,sN,_⟩:=id I4.loc
   have fin:∀h',Heap.SameBut C s4.heap h'->Inv X pins σ (upd H3 D (.lst ys)) { s4 with heap:=h' }:=λh' c_=>by
    have f6:∀{b:Addr} {u:HO},H3 b=some u->b≠C:=λe z=>by
     have:H3 C=none:=I4.free
     rw [z,this] at e;cases e
    refine I2.call' (s':={ s4 with heap:=h' }) (ch:=fp) (H':=upd H3 D (.lst ys)) I4.os ?_ ?_ I4.bare λb hb=>⟨(c9 b hb).2.2.2.1,(c9 b hb).2.1,(c9 b hb).2.2.2.2.1,(c9 b hb).2.2.2.2.2⟩
    ·have B:=I4.base
     have ki:∀{b:Nat} {o:Obj},af.heap.get? b=some o->b≠C:=λe z=>i7 (dG e) hC z
     have kj:∀{b:Addr} {u:HO},H3 b=some u->b≠D:=λe z=>by rw [z,kh] at e;cases e
     refine ⟨λb o e nn hb hx=>(c_.2 b (ki e)).trans (B.keep b o e nn hb hx),λb o e nn hb hx=>?_,λb o e nn hx=>?_,λb o e hx=>?_,λb xs e=>?_,λb o u e=>?_,λb ps e=>?_⟩
     ·obtain ⟨sl,z⟩:=B.slot b o e nn hb hx
      exact ⟨sl,(c_.2 b (ki e)).trans z⟩
     ·have sO:b≠D:=yD (dG e)
      rw [zM sO]
      exact B.free b o e nn hx
     ·obtain ⟨o',z⟩:=B.there b o e hx
      exact ⟨o',(c_.2 b (ki e)).trans z⟩
     ·have z:=B.tups b xs e
      rw [zM (kj z)];exact z
     ·have z:=B.frzs b o u e
      rw [zM (kj z)];exact z
     ·obtain ⟨more,z⟩:=B.tbls b ps e
      exact ⟨more,by rw [zM (kj z)];exact z⟩
    ·intro a o e
     by_cases ha:a=D
     ·subst ha
      rw [yC] at e
      cases e
      exact ⟨hz,its,k,rv,(c_.2 _ f9).trans sL⟩
     ·rw [zM ha] at e
      have eA:∀b u,H3 b=some u->(upd H3 D (.lst ys)) b=some u:=λb u z=>by
       have hb:b≠D:=λw=>by rw [w,kh] at z;cases z
       rw [zM hb];exact z
      refine (I4.hok a o e).stay (λb u hb z=>(c_.2 b ?_).trans z) (λb z=>eA b _ z) λb xs z=>eA b _ z
      rcases hb with hb|hb
      ·rw [hb];exact f6 e
      ·exact f6 hb
   have NT:C≠D:=λz=>f9 z.symm
   have IX:=fin s4.heap ⟨rfl,λ_ _=>rfl⟩
   obtain ⟨oC,eC,pC,gC,rC⟩:=id sN
   have CS:upd H3 D (.lst ys) C=none:=by rw [zM NT];exact I4.free
   have uI:∀b o,af.heap.get? b=some o->b≠C:=λb o e z=>i7 (dG e) hC z
   have qz:C≠X.env.locals:=λz=>by
    obtain ⟨m2,du,_⟩:=id I2.loc
    obtain ⟨o2,_,_,g2,_⟩:=du
    exact uI _ _ g2 z.symm
   have NU:C∉X.fs:=I2.nofs (by rw [hD];omega)
   have IP:Inv X (pins++[(C,oC)]) σ (upd H3 D (.lst ys)) s4:=IX.pins_of λp hp=>by
    rcases mK.mp hp with hp|hp
    ·exact IX.pin p (yX _ hp)
    ·have ep:p=(C,oC):=by simpa using hp
     subst ep
     exact ⟨gC,CS,qz,NU,λv z=>by rw [rC.1] at z;cases z⟩
   show wpAny _ _ (assign (.Name y pos') X.env (.ref D)) _ _ s4
   have a9:wpAny (model X.prog X.w) X.A (assign (.Name y pos') X.env (.ref D)) (λ_ s5=>Inv X (pins++[(C,oC)]) (σ.set iy (some (.ref D))) (upd H3 D (.lst ys)) s5) X.xe s4:=wpAny_assign_Name (lI IP oy oz hy (v:=.ref D) rfl (λs5 I5=>I5) oA)
   refine aS a9 λ_ s5 I5=>?_
   have g5:=(I5.pin (C,oC) (yX _ (yX _ y3))).1
   refine ⟨m4,⟨oC,eC,pC,g5,rC⟩,λWm c_=>zG (zG ⟨_,_,?_,q D kh⟩)⟩
   exact (I5.pins_of (pins':=pins) λp hp=>I5.pin p (yX _ (ly _ hp))).turned (it:=C) (t':=s5.toks) (λb o hb e=>(c_.2 b hb).trans e) CS qz
    (.inr (by have:=I2.sz;rw [hD] at this;omega)) (λa c ha z=>by
     obtain ⟨v',o',ho',_⟩:=I2.cell a c ha
     exact uI _ _ ho' z) (λp hp=>uI _ _ (I2.pin p hp).1)
  ·refine aS (T.item Y rfl rfl rfl hc i _ s3 _ H3 E' I3 (kg fE hG) aX go) λr s4 ⟨u,hr,h4⟩=>?_
   subst hr
   refine aS h4 λ_ s5 ⟨z,H5,I5,r5,y5,cU,mV⟩=>?_
   have mW:=I5.pinned (kg fE mV) (T.obj _ _ cU)
   have fF:PG Y (.Name x px) (wo 0):=wR (X:=Y) hN rfl (.inl (j1 S.hx)) (.inr (j1 S.hx))
   have sP:PE Y elt te:=PE.nox (X:=Y) (he cl C af H2 fp)
   refine aS (fF _ s5 (none::σ) H5 z u (λah H'=>ah=some z::σ/\H'=H5) mW r5 ⟨rfl,rfl⟩) λ_ s6 ⟨aH,H6,I6,e1,e2⟩=>?_
   subst e1 e2
   refine aS (sP _ s6 _ _ _ I6 (step z _ y5)) λuy s7 ⟨y,H7,I7,ry,m',hm,w7⟩=>?_
   obtain ⟨nj,kl,_,_,_⟩:=I7.pin (D,_) (yX _ (ly _ y3))
   refine wpAny_list_append_plain ⟨k,nj⟩ (λh' bp c_=>?_) (by rw [yR,<-rv.length];exact hz)
   obtain ⟨k',nk⟩:=bp
   have I8:Inv Y [] (some z::σ) H7 { s7 with heap:=h' }:=(I7.pins_of (pins':=[]) (λp hp=>nomatch hp)).turned (it:=D) (t':=s7.toks) (λb o hb e=>(c_.2 b hb).trans e) kl f9
    (.inr (by show af.heap.objs.size<=D;omega)) (λa c hy sQ=>by
     obtain ⟨v',o',ho',_⟩:=I2.cell a c (cE a c hy)
     exact yD (dG ho') sQ) (λp hp=>by simp [Y,hW] at hp)
   have I9:Inv Y [] (none::σ) H7 { s7 with heap:=h' }:=I8.weak (by simp) λj v e=>by
    cases j with
    | zero=>simp at e
    | succ j=>simpa using e
   have dy:∀b∈fp,∃o,s5.heap.get? b=some o/\s7.heap.get? b=some o/\H7 b=none:=λb hb=>by
    obtain ⟨o,e,_⟩:=T.obj _ _ cU b hb
    have q:=I7.pin (b,o) (yX _ (yX _ (mT hb e)))
    exact ⟨o,e,q.1,q.2.1⟩
   have sR:∀b∈fp,b≠D:=λb hb=>by
    obtain ⟨o,ho,_⟩:=T.obj 0 _ aK b hb
    exact yD (dG ho)
   have eT:its.toArray.push uy=(its++[uy]).toArray:=by simp
   rw [eT] at nk
   refine ⟨m',hm,i+1,ys++[y],H7,its++[uy],k',I9.pins_of (eS nk kl λv e=>by cases e),rv.append (.cons ry .nil),T.keep (i+1) _ _ cU λb hb o e=>?_,λb hb=>?_,w7⟩
   ·obtain ⟨o',e1,e2,_⟩:=dy b hb
    rw [e] at e1
    cases e1
    exact (c_.2 b (sR b hb)).trans e2
   ·obtain ⟨_,_,_,q⟩:=dy b hb
    exact q
 exact codeAny_compStart_list loop (T.self X.A 0 _ _ _ (T.keep 0 _ _ aK (λb hb o e=>old b o e)) loop)
end L2
namespace Mi
open PySem L2 PySem.W PySem.Spec
section
variable {X:Cx}{Er:XK}{pos:Pos}
def CT (X:Cx) (Er:XK) (src:zc->Mo Sq):TI:=fun σ H R=>∃env st ρ,a8 X.K X.mg ρ H env σ/\a0 X.K X.mg ρ H st/\Out X.K X.mg ρ H (src env st) (λaj H' q bh=>∀J,Walk X.K X.mg J aj H' q->R J H') Er
def NV {src:zc->Mo Sq}{fe:Ai}(σ:L2.St) (H:Hp) (Q:VK) (hh:tM X.K X.mg Er (jg src fe) σ H Q):AJ (CT X Er src) (tM X.K X.mg XN fe) σ H Q:=by
 obtain ⟨env,st,ρ,re,rs,h⟩:=hh
 refine ⟨env,st,ρ,re,rs,h.then λaq H0 q cK e0 s0 h0 J wk=>?_⟩
 cases q with
 | im xs =>
  obtain ⟨hl,h0⟩:=Out.ifp h0
  obtain ⟨w1,w2,w3⟩:=wk
  refine ⟨λi m ys H=>m=xs.length-i/\i<=xs.length/\ys.length=i/\∃ps st ρ,Rs X.K X.mg ρ H ps ys/\a0 X.K X.mg ρ H st/\Ext aq H0 ρ H/\Out X.K X.mg ρ H (cj fe env (xs.drop i) ps st) (gV X.K X.mg Q) Er,⟨xs.length,by simp,jk _,rfl,[],cK,aq,rfl,s0,Ext.refl,h0⟩,?_⟩
  rintro i m ys H ⟨rfl,hi,hy,ps,st,ρ,cM,rs,ex,h⟩
  by_cases a7:i<xs.length
  ·refine .inr ⟨w1 i ρ H ex a7,y4 (by omega),λv H' y=>?_⟩
   obtain ⟨x,hx,bK,s2,rx⟩:=w3 i ρ H st v H' ex rs a7 y
   have hd:xs.drop i=x::xs.drop (i+1):=by
    rw [jK a7]
    have:=(yr.mp hx).2
    rw [this]
   rw [hd] at h
   simp only [cj] at h
   refine ⟨some x::env,st,ρ,(re.ext (e0.trans (ex.trans bK))).cons rx,s2,j8 (Out.ext h bK) λal H3 y aX e3 s3 h3 v ry=>⟨xs.length-(i+1),by omega,rfl,a7,by simp [hy],ps++[y],aX,al,Rs.snoc ry (Rs.ext (bK.trans e3) ps cM),s3,(ex.trans bK).trans e3,h3⟩⟩
  ·have e:i=xs.length:=by omega
   subst e
   rw [List.drop_length] at h
   exact .inl ⟨w2 _ ρ H ex (ya _),y4 (by omega),λl hl=>Out.newList h rs cM hl⟩
 | rf n =>
  obtain ⟨a,ha,rfl⟩:=wk
  refine ⟨λi m ys H=>m+i=lim+1/\ys.length=i/\∃ps st ρ,Rs X.K X.mg ρ H ps ys/\a0 X.K X.mg ρ H st/\Ext aq H0 ρ H/\ρ[n]?=some a/\Out X.K X.mg ρ H (d6 fe env n m i ps st) (gV X.K X.mg Q) Er,⟨lim+1,rfl,rfl,[],cK,aq,rfl,s0,Ext.refl,ha,h0⟩,?_⟩
  rintro i m ys H ⟨hm,hy,ps,st,ρ,cM,rs,ex,ha,h⟩
  cases m with
  | zero=>exact h.elim
  | succ m =>
   obtain ⟨xs,hn,h⟩:=jm h
   obtain ⟨vs,hH,hR⟩:=rs.addr hn ha
   cases hx:xs[i]? with
   | none =>
    simp only [hx] at h
    have:vs.length<=i:=by rw [<-hR.len];exact iX.mp hx
    exact .inl ⟨⟨vs,a4.of hH,this⟩,y4 (by omega),λl hl=>Out.newList h rs cM hl⟩
   | some x =>
    simp only [hx] at h
    obtain ⟨v,hv,rv⟩:=hR.get hx
    refine .inr ⟨⟨vs,v,a4.of hH,hv⟩,y4 (by omega),λv' H' y=>?_⟩
    obtain ⟨e1,y⟩:=y
    subst e1
    have e2:=y vs (a4.of hH)
    rw [hv] at e2
    cases e2
    exact ⟨some x::env,st,ρ,(re.ext (e0.trans ex)).cons rv,rs,j8 h λal H3 y aX e3 s3 h3 v ry=>⟨m,jP m,by omega,by simp [hy],ps++[y],aX,al,Rs.snoc ry (Rs.ext e3 ps cM),s3,ex.trans e3,e3.get ha,h3⟩⟩
def NW (i:Nat) {elt iter:Expr} {x y:Str} {px pos' e_:Pos} {scope:Scope} {src:zc->Mo Sq} {fe:Ai} {M:Ad} (hc:X.calm=true) (S:cO X.env.scope scope x) (eN:Hid scope M X.N) (bY:((".0" : Str)::x::M).Nodup)
  (hi:MI X Er (.Name x px) iter src) (he:∀cl C af ai fp,ME (hW X M scope cl x C af ai fp (λ_ _=>False)) XN elt fe) (oy:X.N.Nodup) (oz:X.N[i]?=some y) (hy:Loc X.env.scope y) (oA:X.fn y=true\/X.env.scope.names.lookup y=some .local)
  (fS:swapsWith (.ListComp elt [⟨.Name x px,iter,[],0⟩] scope pos) (some (.Name y pos')) e_.line X.env=pure true) (hs:∀v,foldedSetIterable iter X.env v=pure v:=by intro _;rfl) :
  MS X Er (.Assign [.Name y pos'] (.ListComp elt [⟨.Name x px,iter,[],0⟩] scope pos) e_) (zK i (jg src fe)) :=
 PS.weak (NS (te:=tM X.K X.mg XN fe) hc S eN bY hi (λcl C af ai fp=>he cl C af ai fp) oy oz hy oA fS hs) λD σ H ⟨env,st,ρ,re,rs,h⟩=>by
  refine NV (X:=X) (Er:=Er) (src:=src) (fe:=fe) σ H (λv H2=>D.nx (σ.set i (some v)) H2) ⟨env,st,ρ,re,rs,h.then λag H1 x aa e1 s1 h1 v rv=>?_⟩
  exact h1.now s1 (σ.set i (some v)) ((re.ext e1).set i rv)
def NX (i:Nat) {elt iter:Expr} {x y:Str} {px pos' e_:Pos} {scope:Scope} {src:zc->Mo Sq} {fe:Ai} {N:Ad} (hc:X.calm=true) (S:cO X.env.scope scope x) (eN:X.N=N) (bY:((".0" : Str)::x::N).Nodup)
  (hi:MI X Er (.Name x px) iter src) (he:∀cl C af ai fp,ME (AH X scope cl x C af ai fp (λ_ _=>False)) XN elt fe) (oy:X.N.Nodup) (oz:X.N[i]?=some y) (hy:Loc X.env.scope y) (oA:X.fn y=true\/X.env.scope.names.lookup y=some .local)
  (fS:swapsWith (.ListComp elt [⟨.Name x px,iter,[],0⟩] scope pos) (some (.Name y pos')) e_.line X.env=pure true) (hs:∀v,foldedSetIterable iter X.env v=pure v:=by intro _;rfl) :
  MS X Er (.Assign [.Name y pos'] (.ListComp elt [⟨.Name x px,iter,[],0⟩] scope pos) e_) (zK i (jg src fe)) :=
 NW i hc S Hid.refl (eN▸bY) hi he oy oz hy oA fS hs
end
end Mi
namespace L2
open PySem PySem.Spec PyProof.Rows PySem.W
section
variable {X:Cx}{pins:Ac}{σ:St}{H:Hp}{s:Shared}{a:Addr}{kvs:List (Key×V)}{o:Obj}
def Inv.freeze (I:Inv X pins σ H s) (ha:H a=some (.dK kvs)) (ho:s.heap.get? a=some o):Inv X pins σ (upd H a (.frz o (.dK kvs))) s:=by
 have mu:lE (H a):=by rw [ha];trivial
 have d:=I.hok a _ ha
 exact I.un (h':=s.heap) (t':=s.toks) (Un.write (e:=a) mu (.inl rfl) (λb u _ q=>q) ⟨o,ho⟩) (bH.write (e:=a) I.hok mu (.inl rfl) (λb u _ q=>q) ⟨o,ho⟩ ⟨ho,d⟩)
def Inv.young (I:Inv X pins σ H s) (ha:H a=some (.dK kvs)):∀o u,X.H₀ a≠some (.frz o u):=λo u e=>by
 have:=I.base.frzs a o u e
 rw [ha] at this
 cases this
def Inv.thaw (I:Inv X pins σ H s) (ha:H a=some (.frz o (.dK kvs))) (hy:∀o u,X.H₀ a≠some (.frz o u)):Inv X pins σ (upd H a (.dK kvs)) s:=by
 have ne:∀b,H b=none->b≠a:=λb n z=>by rw [z,ha] at n;cases n
 have no:∀b u,H b=some u->(∀o k,u ≠ .frz o k)->b≠a:=λb u e n z=>by rw [z,ha] at e;cases e;exact n _ _ rfl
 refine ⟨I.ok,I.os,I.bare,⟨I.base.keep,I.base.slot,λb o e n hx=>?_,I.base.there,λb xs e=>?_,λb o u e=>?_,λb ps e=>?_⟩,I.loc,I.cell,?_,λx c e=>?_,λp hp=>?_,λb u e=>?_,I.len⟩
 ·have:=I.base.free b o e n hx
  rw [zM (ne b this)];exact this
 ·have:=I.base.tups b xs e
  rw [zM (no b _ this λ_ _=>nofun)];exact this
 ·have:=I.base.frzs b o u e
  rw [zM (λz=>hy o u (by rw [<-z];exact e))];exact this
 ·obtain ⟨m,this⟩:=I.base.tbls b ps e
  exact ⟨m,by rw [zM (no b _ this λ_ _=>nofun)];exact this⟩
 ·rw [zM (ne _ I.free)];exact I.free
 ·rw [zM (ne _ (I.freeC x c e))];exact I.freeC x c e
 ·obtain ⟨h1,h2,h3⟩:=I.pin p hp
  exact ⟨h1,by rw [zM (ne _ h2)];exact h2,h3⟩
 ·by_cases hb:b=a
  ·subst hb
   rw [yC] at e
   cases e
   exact (I.hok b _ ha).2
  ·rw [zM hb] at e
   exact (I.hok b u e).stay (λc v _ q=>q) (λc q=>by rw [zM (no c _ q λ_ _=>nofun)];exact q) λc xs q=>by rw [zM (no c _ q λ_ _=>nofun)];exact q
end
def CU (a:Addr) (o:Obj) (kvs:List (Key×V)):It :=
 ⟨λi H=>H a=some (.frz o (.dK kvs))/\i<kvs.length,λi H x H'=>H'=H/\∃kv,kvs[i]?=some kv/\x=kV kv.1,λi H=>H a=some (.frz o (.dK kvs))/\kvs.length<=i⟩
def NY {k:Key}{u:Value}(h:dn k u=true):RelV (kV k) u:=by
 rcases wn h with ⟨i,t,rfl,rfl⟩|⟨y,t,rfl,rfl⟩
 ·exact ⟨t,rfl⟩
 ·exact ⟨t,rfl⟩
def CV {X:Cx}{pins:Ac}{σ:St}{H:Hp}{s:Shared}{a:Addr}{o:Obj}{kvs:List (Key×V)}{es:Array DictEntry}{ep:Nat}(I:Inv X pins σ H s) (ha:H a=some (.frz o (.dK kvs))) (hd:o.data=.dict es ep) :
  ∃vs,KV kvs vs/\s.heap.DictAt (a3 X.prog X.w) a vs ep:=by
 obtain ⟨ho,_,_,vs,r,o',pj,pk,e1,e2,e3,e4⟩:=I.hok a _ ha
 rw [ho] at e1
 cases e1
 rw [hd] at e3
 cases e3
 exact ⟨vs,r,o,es,ho,e2,hd,e4⟩
def NZ {P:Program}{w:World}{K:PySem.W.Frag}{tg:Expr}{a it:Addr}{o:Obj}{kvs:List (Key×V)}{es:Array DictEntry}{ep:Nat}(hd:o.data=.dict es ep):Turn P w K tg (CU a o kvs) [it] it (λi h=>h.IsKeyIter it a i kvs.length ep) where
 mem:=by simp
 obj:=λi h st b hb=>by
  have e:b=it:=by simpa using hb
  subst e
  obtain ⟨o,e,c,d⟩:=st
  exact ⟨o,e,λv z=>by rw [d] at z;cases z⟩
 keep:=λi h h' st k=>st.at λo e=>k it (by simp) o e
 item:=by
  intro X hP hw hK hc i pins s σ H E I hf st hg
  subst hP hw hK
  obtain ⟨ha,hi⟩:=hg
  obtain ⟨vs,r,ou⟩:=CV I ha hd
  have hl:=r.length
  have hv:vs[i]?=some (vs[i]'(by omega)):=yu (by omega)
  have kL:kvs[i]?=some kvs[i]:=yu hi
  have hk:kvs[i].1=(vs[i]'(by omega)).1:=by
   have:=congrArg (λl:List Key=>l[i]?) r.keys
   simp only [jr,hv,kL,Option.map_some] at this
   exact Option.some.inj this
  obtain ⟨f0,f1,f2,f3,f4,f5⟩:=hf it (by simp)
  rw [hl] at st
  refine wpAny_pyNext_dict_item st ou (k:=(vs[i]'(by omega)).1) (v:=(vs[i]'(by omega)).2) hv λkey h' gg bh sb=>?_
  have I1:Inv X pins σ H { s with heap:=h' }:=I.turned (t':=s.toks) (λb o hb e=>(sb.2 b hb).trans e) f0 f1 f3 f4 f5
  obtain ⟨o',e,c,d⟩:=id bh
  refine ⟨key,rfl,lJ (s:={ s with heap:=h' }) e c d (by decide) ⟨kV kvs[i].1,H,I1,?_,⟨rfl,_,kL,rfl⟩,by rw [<-hl] at bh;exact bh,λb hb=>(hf b hb).1⟩⟩
  rw [hk]
  exact NY gg
 done:=by
  intro X hP hw hK hc i pins s σ H E I hf st hg
  subst hP hw hK
  obtain ⟨ha,hi⟩:=hg
  obtain ⟨vs,r,ou⟩:=CV I ha hd
  have hl:=r.length
  obtain ⟨f0,f1,f2,f3,f4,f5⟩:=hf it (by simp)
  rw [hl] at st
  exact wpAny_pyNext_dict_end (I.ok.hd hc) st ou (iX.mpr (by omega)) λh' eb=>⟨rfl,I.turned (t':=s.toks) (λb o hb e=>eb b o hb e) f0 f1 f3 f4 f5⟩
 self:=λ_ _ _ _ _ st h=>wpAny_pyIter_keyiter st h
def N0 (X:Cx) (tl:TE):TI:=fun σ H R=>tl σ H λx H1=>∃a kvs,x=.ref a/\H1 a=some (.dK kvs)/\∀o,kvs.length<=sizeLine->(∀o u,X.H₀ a≠some (.frz o u))->R (CU a o kvs) (upd H1 a (.frz o (.dK kvs)))
def N1 {X:Cx}{l tg:Expr}{tl:TE}(hl:PE X l tl):PI X tg l (N0 X tl):=by
 intro pins s σ H R I h
 refine aS (hl pins s σ H _ I h) λv s1 ⟨x,H1,I1,r1,a,kvs,e,ha,q⟩=>?_
 subst e
 cases r1
 obtain ⟨hz,lo,vs,r,o,es,ep,ho,hx,hd,hr⟩:=I1.hok a _ ha
 have I2:=I1.freeze ha ho
 have fr:∀b,s1.heap.objs.size<=b->(upd H1 a (.frz o (.dK kvs))) b=none:=λb hb=>I2.hok.fresh hb
 refine wpAny_pyIter_dict lo (show s1.heap.DictAt (a3 X.prog X.w) a vs ep from ⟨o,es,ho,hx,hd,hr⟩) ?_
 refine ⟨s1.heap.objs.size,[s1.heap.objs.size],_,_,_,rfl,I2.kept (t':=s1.toks) (λb o e=>z9 _ e),NZ hd,?_,λb hb=>?_,q o hz (I1.young ha)⟩
 ·rw [r.length]
  exact ⟨_,yB _ rfl,rfl,rfl⟩
 ·have e:b=s1.heap.objs.size:=by simpa using hb
  subst e
  exact I2.fpOk (ya _) (fr _ (ya _))
def CW (X:Cx) (H:Hp) (G:Hp->Prop):Prop:=∃a o kvs,H a=some (.frz o (.dK kvs))/\(∀o u,X.H₀ a≠some (.frz o u))/\G (upd H a (.dK kvs))
def N5 {X:Cx}{st:Stmt}{t:TS}(h:PS X st t):PS X st (λD σ H=>t ⟨λah H'=>CW X H' (D.nx ah),λ_ _=>False,λ_ _=>False,λ_ _=>False⟩ σ H):=by
 intro pins s σ H D I q
 refine aS (h pins s σ H _ I q) λf s1 q1=>?_
 cases f with
 | next =>
  obtain ⟨ah,H',I',a,o,kvs,ha,hy,q'⟩:=q1
  exact ⟨ah,_,I'.thaw ha hy,q'⟩
 | brk=>obtain ⟨_,_,_,q'⟩:=q1;exact q'.elim
 | cont=>obtain ⟨_,_,_,q'⟩:=q1;exact q'.elim
 | ret u=>obtain ⟨_,_,_,_,_,q'⟩:=q1;exact q'.elim
def CY:bootBuiltins "reversed" = some (.type "reversed"):=by decide +kernel
end L2
namespace Mi
open PySem L2 PySem.W PySem.Spec
section
variable {K:Frag}{mg:Ab}{ρ:Ae}{H:Hp}{a:Addr}{o:Obj}{kvs:List (Key×V)}{u:HO}
def oB (ha:H a=some (.frz o (.dK kvs))) {b:Addr}{w:HO}(h:H b=some w) (n:∀o k,w ≠ .frz o (.dK k)):upd H a u b=some w:=by
 rw [zM]
 ·exact h
 ·intro z;subst z;rw [ha] at h;cases h;exact n _ _ rfl
def CZ (ha:H a=some (.frz o (.dK kvs))) {p:Addr}{xs:List V}(h:ba K H p xs):ba K (upd H a u) p xs:=by
 rcases h with (h|⟨o,h⟩)|h
 ·exact .inl (.inl (oB ha h (λ_ _=>nofun)))
 ·exact .inl (.inr ⟨o,oB ha h (λ_ _=>nofun)⟩)
 ·exact .inr h
def N8 (ha:H a=some (.frz o (.dK kvs))) {p:Addr}{xs:List V}(h:gG K H p xs):gG K (upd H a u) p xs:=by
 rcases h with ⟨o,h⟩|h
 ·exact .inl ⟨o,oB ha h (λ_ _=>nofun)⟩
 ·exact .inr h
mutual
def R.th (ha:H a=some (.frz o (.dK kvs))):∀(x:PV) {v:V},R K mg ρ H x v->R K mg ρ (upd H a u) x v
 | .non,_,h=>h
 | .bl _,_,h=>h
 | .int _,_,h=>h
 | .str _,_,h=>h
 | .ty _,_,h=>h
 | .tup xs,_,h=>by
  obtain ⟨a,vs,h1,h2,h3⟩:=h
  exact ⟨a,vs,h1,CZ ha h2,Rs.th ha xs h3⟩
 | .frl xs,_,h=>by
  obtain ⟨a,vs,h1,h2,h3⟩:=h
  exact ⟨a,vs,h1,N8 ha h2,Rs.th ha xs h3⟩
 | .ref n,_,h=>h
 | .fn _,_,h=>h
 | .kd ks xs,_,h=>by
  obtain ⟨a,us,vs,h1,h2,h4,h3⟩:=h
  exact ⟨a,us,vs,h1,h2,h4,Rs.th ha xs h3⟩
 | .exo c ks xs,_,h=>by
  obtain ⟨a,C,d,vs,h1,h2,h3,h4,h5,h6⟩:=h
  exact ⟨a,C,d,vs,h1,h2,oB ha h3 (λ_ _=>nofun),oB ha h4 (λ_ _=>nofun),Rs.th ha xs h5,h6⟩
def Rs.th (ha:H a=some (.frz o (.dK kvs))):∀(xs:An) {vs:List V},Rs K mg ρ H xs vs->Rs K mg ρ (upd H a u) xs vs
 | [],_,h=>h
 | x::xs,_,h=>by
  obtain ⟨v,r,h1,h2,h3⟩:=h
  exact ⟨v,r,h1,R.th ha x h2,Rs.th ha xs h3⟩
end
def a8.th (ha:H a=some (.frz o (.dK kvs))) {env:zc}{σ:L2.St}(h:a8 K mg ρ H env σ):a8 K mg ρ (upd H a u) env σ :=
 ⟨h.len,λi x hx=>let ⟨v,p,q⟩:=h.at_ i x hx;⟨v,p,R.th ha x q⟩⟩
def N9 (ha:H a=some (.frz o (.dK kvs))) {so:SO}{b:Addr}(ne:b≠a) (h:fh K mg ρ H so b):fh K mg ρ (upd H a u) so b:=by
 cases so with
 | lst xs=>obtain ⟨vs,h1,h2⟩:=h;exact ⟨vs,by rw [zM ne];exact h1,Rs.th ha xs h2⟩
 | dic ks xs=>obtain ⟨vs,h1,h2,h3⟩:=h;exact ⟨vs,by rw [zM ne];exact h1,Rs.th ha xs h2,h3⟩
 | ins c ks xs=>obtain ⟨C,dx,vs,h0,h1,h2,h3⟩:=h;exact ⟨C,dx,vs,h0,by rw [zM ne];exact h1,Rs.th ha xs h2,h3⟩
 | fdi ks xs=>obtain ⟨o,vs,h1,h2,h3⟩:=h;exact ⟨o,vs,by rw [zM ne];exact h1,Rs.th ha xs h2,h3⟩
 | dit ks xs=>obtain ⟨its,vs,h1,h2,h3,h4,h5⟩:=h;exact ⟨its,vs,by rw [zM ne];exact h1,h2,λx hx=>CZ ha (h3 x hx),h4,Rs.th ha xs h5⟩
def a0.thaw {st:ae}{n:Nat}{ks:Ad}{xs:An}(s:a0 K mg ρ H st) (hn:ρ[n]?=some a) (ha:H a=some (.frz o (.dK kvs))) (hs:st[n]?=some (.fdi ks xs)):a0 K mg ρ (upd H a (.dK kvs)) (st.set n (.dic ks xs)):=by
 refine ⟨by simp [s.len],s.nd,λi gH e=>?_⟩
 rw [List.getElem?_set] at e
 by_cases cL:n=i
 ·subst cL
  rw [zA rfl] at e
  split at e
  ·cases e
   obtain ⟨o',vs,h1,h2,h3⟩:=s.addr hs hn
   rw [ha] at h1
   cases h1
   exact ⟨a,hn,vs,yC,Rs.th ha xs h2,h3⟩
  ·cases e
 ·rw [zF cL] at e
  obtain ⟨b,hb,q⟩:=s.at_ i gH e
  have ne:b≠a:=by
   intro z
   subst z
   obtain ⟨h1,h2⟩:=yr.mp hn
   obtain ⟨h3,h4⟩:=yr.mp hb
   have pw:=List.pairwise_iff_getElem.mp s.nd
   rcases Nat.lt_trichotomy n i with c|c|c
   ·exact pw n i h1 h3 c (h2.trans h4.symm)
   ·exact cL c
   ·exact pw i n h3 h1 c (h4.trans h2.symm)
  exact ⟨b,hb,N9 ha ne q⟩
def Ext.thawed {aj:Ae}{H':Hp}{w:HO}(ha:H a=some (.dK kvs)) (e:Ext ρ (upd H a (.frz o (.dK kvs))) aj H'):Ext ρ H aj (upd H' a w) :=
 ⟨e.pre,λb x h m=>by
  have ne:b≠a:=by intro z;subst z;rw [ha] at h;cases h;cases m
  rw [zM ne]
  exact e.imm b x (by rw [zM ne];exact h) m⟩
end
section
variable {X:Cx}{Er:XK}{pos:Pos}{o:Expr}{cB:List Stmt}{gb:Aj}{fo:Ai}{fs:Ah}
def qA {α:Type}(v:PV) (st:ae) (f:Nat->List Str->List PV->Res α):Res α:=match v with
 | .ref n=>y9 st n λks xs=>f n ks xs
 | _=>.stuck
def gO {α:Type}(n:Nat) (st:ae) (f:ae->Res α):Res α:=match st[n]? with
 | some (.fdi ks xs)=>f (st.set n (.dic ks xs))
 | _=>.stuck
def C0 {α:Type}{K:Frag}{mg:Ab}{ρ:Ae}{H:Hp}{st:ae}{v:PV}{k:Nat->List Str->List PV->Res α}{good:List Addr->Hp->α->ae->Prop}(h:Out K mg ρ H (qA v st k) good Er):∃n ks xs,v=.ref n/\st[n]?=some (.dic ks xs)/\Out K mg ρ H (k n ks xs) good Er:=by
 unfold qA at h
 split at h
 ·rename_i n
  obtain ⟨ks,xs,e,h⟩:=tO h
  exact ⟨n,ks,xs,rfl,e,h⟩
 ·exact h.elim
def N_ {α:Type}{K:Frag}{mg:Ab}{ρ:Ae}{H:Hp}{st:ae}{n:Nat}{k:ae->Res α}{good:List Addr->Hp->α->ae->Prop}(h:Out K mg ρ H (gO n st k) good Er):∃ks xs,st[n]?=some (.fdi ks xs)/\Out K mg ρ H (k (st.set n (.dic ks xs))) good Er:=by
 unfold gO at h
 split at h
 ·rename_i ks xs e;exact ⟨ks,xs,e,h⟩
 ·exact h.elim
def Oa {α β:Type}{K:Frag}{mg:Ab}{ρ:Ae}{H:Hp}{r:Res β}{f:β->Mo α}{good:List Addr->Hp->α->ae->Prop}(h:Out K mg ρ H ((br r).bind f) good Er):∃x st,r=.ok x st/\Out K mg ρ H (f x st) good Er:=by
 cases r with
 | ok x st=>exact ⟨x,st,rfl,h⟩
 | err=>exact h.elim
 | stuck=>exact h.elim
def Ob {α β:Type}{r:Res β}{f:β->Mo α}{x:α}{st:ae}(h:(br r).bind f=.ok x st):∃y aa,r=.ok y aa/\f y aa=.ok x st:=by
 cases r with
 | ok y aa=>exact ⟨y,aa,rfl,h⟩
 | err=>cases h
 | stuck=>cases h
def fg (g:PV->zc->Option zc) (body:Aj):List PV->zc->Mo zc
 | [],env,st=>.ok env st
 | x::xs,env,st=>match g x env with
  | none=>.stuck
  | some bf=>(br (body bf st)).bind λfl aK=>match fl with
   | .nx e=>fg g body xs e aK
   | .ct e=>fg g body xs e aK
   | _=>.stuck
def w8 (fo:Ai) (g:PV->zc->Option zc) (body:Aj):Aj:=λenv st=>(fo env st).bind λv aa=>qA v aa λn ks xs =>
 (br (fg g body (ks.map PV.str) env (aa.set n (.fdi ks xs)))).bind λe aK=>gO n aK λaX=>.ok (.nx e) aX
def Oc {ks:Ad}{vs:List V}{i:Nat}{kv:Key×V}(h:(kz ks vs)[i]?=some kv):∃k,ks[i]?=some k/\kV kv.1=.str k:=by
 unfold kz at h
 rw [List.getElem?_zip_eq_some] at h
 obtain ⟨h1,_⟩:=h
 rw [jr] at h1
 cases hk:ks[i]? with
 | none=>rw [hk] at h1;cases h1
 | some k =>
  rw [hk] at h1
  have:kv.1=Sum.inr k:=(Option.some.inj h1).symm
  exact ⟨k,rfl,by rw [this];rfl⟩
def zbv {tg:Expr}{gt:PV->zc->Option zc}(hp:PassesOwn (model X.prog X.w) X.A X.env X.xe) (hc:X.calm=true) (ho:ME X Er o fo) (hg:MG X Er tg gt) (hb:dc X Er cB gb)
  (hs:∀v,foldedSetIterable o X.env v=pure v:=by intro _;rfl):MS X Er (.For tg o cB [] pos) (w8 fo gt gb) :=
 PS.weak (N5 (mU hp hc (N1 ho) hg hb hs)) λD σ H ⟨env,st,ρ,re,rs,h⟩=>⟨env,st,ρ,re,rs,h.then λaq H0 x cK e0 s0 h0 v rv=>by
  obtain ⟨n,ks,xs,rfl,hn,h0⟩:=C0 h0
  obtain ⟨a,vs,rfl,ha,k1,k2,k3⟩:=R.refD s0 rv hn
  refine ⟨a,kz ks vs,rfl,k1,λob hz hy=>?_⟩
  obtain ⟨e',bh,hr,h0⟩:=Oa h0
  obtain ⟨cy,cx,ht,h0⟩:=N_ h0
  have ew:Ext aq H0 aq (upd H0 a (.frz ob (.dK (kz ks vs)))):=Ext.write k1 rfl
  have hl:(kz ks vs).length=ks.length:=by simp [kz,k3]
  refine ⟨λi m σ H=>m=ks.length-i/\i<=ks.length/\∃env st ρ,a8 X.K X.mg ρ H env σ/\a0 X.K X.mg ρ H st/\Ext aq (upd H0 a (.frz ob (.dK (kz ks vs)))) ρ H/\fg gt gb ((ks.map PV.str).drop i) env st=.ok e' bh,
   ⟨ks.length,by simp,jk _,env,_,aq,(re.ext e0).ext ew,s0.write (so:=.fdi ks xs) ha ew ⟨ob,vs,yC,Rs.ext ew _ k2,k3⟩,Ext.refl,hr⟩,?_⟩
  rintro i m σ H ⟨rfl,hi,env,st,ρ,re,rs,ex,h⟩
  have hf:H a=some (.frz ob (.dK (kz ks vs))):=ex.imm a _ yC rfl
  have Od:=ex.get ha
  by_cases a7:i<ks.length
  ·refine .inr ⟨⟨hf,by rw [hl];exact a7⟩,_,λah H' p'=>⟨ks.length-(i+1),by omega,rfl,a7,p'⟩,λv H' y=>?_⟩
   obtain ⟨rfl,kv,kL,rfl⟩:=y
   obtain ⟨k,hk,ev⟩:=Oc kL
   have hd:(ks.map PV.str).drop i=.str k::(ks.map PV.str).drop (i+1):=by
    rw [jK (by simpa using a7)]
    have:=(yr.mp hk).2
    simp [this]
   rw [hd] at h
   simp only [fg] at h
   cases hgx:gt (.str k) env with
   | none=>simp only [hgx] at h;cases h
   | some bf =>
    simp only [hgx] at h
    obtain ⟨fl,aK,Oe,h⟩:=Ob h
    refine ⟨.str k,env,bf,ρ,ev,re,hgx,λaw r1=>⟨bf,st,ρ,r1,rs,?_⟩⟩
    rw [Oe]
    intro al H3 e3 s3
    cases fl with
    | nx e=>exact λay r4=>⟨e,aK,al,r4,s3,ex.trans e3,h⟩
    | ct e=>exact λay r4=>⟨e,aK,al,r4,s3,ex.trans e3,h⟩
    | bk e=>cases h
    | rt v=>cases h
  ·have e:i=ks.length:=by omega
   subst e
   rw [g9 (by simp)] at h
   cases h
   exact .inl ⟨⟨hf,by rw [hl];exact ya _⟩,a,ob,_,hf,hy,h0 ρ _ (Ext.thawed k1 ex) (a0.thaw rs Od hf ht) σ (re.th hf)⟩⟩
def jM:Am:=λx y st=>match x with
 | .ref n=>match st[n]? with
  | some (.fdi ks xs)=>match y with
   | .str z=>bA ((ks.zip xs).lookup z) st
   | _=>.stuck
  | _=>zn x y st
 | _=>zn x y st
def Of (hu:X.A.units+200<cLine):lj X jM:=by
 obtain ⟨r,h1,h2⟩:=zC (X:=X) hu
 refine ⟨_,h1.or (Ce (by omega)),fun ρ H st x y v w Q E s rx ry h=>?_⟩
 by_cases hx:∃n ks xs,x=.ref n/\st[n]?=some (.fdi ks xs)
 ·obtain ⟨n,ks,xs,rfl,e⟩:=hx
  simp only [jM,e] at h
  cases y with
  | str z =>
   obtain ⟨q,hq,h⟩:=wY h
   obtain ⟨a,rfl,ha⟩:=rx
   obtain ⟨ob,vs,k1,k2,_⟩:=s.addr e ha
   cases ry
   obtain ⟨v,hv,rv⟩:=iq k2 hq
   refine .inr ⟨a,v,rfl,.inl ⟨_,Sum.inr z,.inr ⟨ob,k1⟩,rfl,?_⟩,h.now s _ rv⟩
   rw [<-hv]
   exact qq.symm
  | _=>exact h.elim
 ·refine .inl (h2 ρ H st x y v w Q E s rx ry ?_)
  have:jM x y st=zn x y st:=by
   unfold jM
   split
   ·rename_i n
    split
    ·rename_i ks xs e;exact absurd ⟨n,ks,xs,rfl,e⟩ hx
    ·rfl
   ·rfl
  rw [this] at h
  exact h
end
end Mi
namespace L2
open PySem PySem.Spec PyProof.Rows PySem.W
end L2
namespace Mi
open PySem L2 PySem.W PySem.Spec
section
variable {X:Cx}{Er:XK}{K:Frag}{mg:Ab}{pos p apos aV:Pos}{o e f:Expr}{fo fk fx:Ai}
def df:List PV->Option (List Bool)
 | []=>some []
 | .bl b::r=>(df r).map (b::·)
 | _::_=>none
def C3 {ρ:Ae}{H:Hp}:∀{xs:An}{bs:List Bool}{vs:List V},df xs=some bs->Rs K mg ρ H xs vs->vs=bs.map V.bl
 | [],bs,vs,e,h=>by cases e;cases h;rfl
 | .bl i::r,bs,vs,e,h=>by
  simp only [df,Option.map_eq_some_iff] at e
  obtain ⟨ir,e1,rfl⟩:=e
  obtain ⟨v,r',rfl,h1,h2⟩:=h
  cases h1
  rw [C3 e1 h2]
  rfl
 | .non::_,_,_,e,_=>by cases e
 | .int _::_,_,_,e,_=>by cases e
 | .str _::_,_,_,e,_=>by cases e
 | .ty _::_,_,_,e,_=>by cases e
 | .tup _::_,_,_,e,_=>by cases e
 | .frl _::_,_,_,e,_=>by cases e
 | .ref _::_,_,_,e,_=>by cases e
 | .fn _::_,_,_,e,_=>by cases e
 | .kd _ _::_,_,_,e,_=>by cases e
 | .exo _ _ _::_,_,_,e,_=>by cases e
def oE:Al:=λvs st=>(kI vs st).bind λn st=>yp st n λxs=>match df xs with
 | some bs=>.ok (.bl (bs.all id)) st
 | none=>.stuck
def Og (hc:X.calm=true):cg X (.builtin "all") oE:=⟨_,Ju hc,fun ρ H st xs vs Q E s r h=>by
 obtain ⟨n,ys,rfl,hn,h⟩:=uz h
 obtain ⟨cx,iZ,h⟩:=jm h
 obtain ⟨v,rfl,rv⟩:=r.one
 obtain ⟨a,rfl,ha⟩:=rv
 obtain ⟨ws,hH,hR⟩:=s.addr iZ ha
 cases hi:df cx with
 | none=>simp only [hi] at h;exact h.elim
 | some bs =>
  simp only [hi] at h
  have e:=C3 hi hR
  subst e
  exact ⟨a,bs,rfl,a4.of hH,Out.now (x:=PV.bl (bs.all id)) h s _ rfl⟩⟩
def Oh:bootBuiltins "all" = some (.builtin "all"):=by decide +kernel
def pairOf:PV->Option (PV×PV)
 | .tup [x,y]=>some (x,y)
 | _=>none
def Oi {q:PV}{r:PV×PV}(h:pairOf q=some r):q=.tup [r.1,r.2]:=by
 unfold pairOf at h
 split at h
 ·cases h;rfl
 ·cases h
def wu (fe:Ai) (env:zc):List PV->Al
 | [],ys,st=>.ok (.ref st.length) (st++[.lst ys])
 | q::xs,ys,st=>match pairOf q with
  | some r=>(br (fe (some r.1::some r.2::env) st)).bind λz aa=>wu fe env xs (ys++[z]) aa
  | none=>.stuck
def Oj {fe:Ai}{env:zc}{q:PV}{xs ys:An}{st:ae}{ρ:Ae}{H:Hp}{good:List Addr->Hp->PV->ae->Prop}(h:Out K mg ρ H (wu fe env (q::xs) ys st) good Er):∃x y,q=.tup [x,y]/\Out K mg ρ H ((br (fe (some x::some y::env) st)).bind λz aa=>wu fe env xs (ys++[z]) aa) good Er:=by
 simp only [wu] at h
 cases hq:pairOf q with
 | none=>simp only [hq] at h;exact h.elim
 | some r =>
  simp only [hq] at h
  exact ⟨r.1,r.2,Oi hq,h⟩
def rQ:Sq->Option (An)
 | .im xs=>some xs
 | .rf _=>none
def qB (src:zc->Mo Sq) (fe:Ai):Ai:=λenv st=>(src env st).bind λq aa=>match rQ q with
 | some xs=>if xs.length<=lim then wu fe env xs [] aa else .stuck
 | none=>.stuck
def Ol {elt iter:Expr} {x y:Str} {kt:Nat} {px py tp:Pos} {scope:Scope} {src:zc->Mo Sq} {fe:Ai} {N:Ad} (hc:X.calm=true) (S:cP X.env.scope scope [x,y]) (eN:X.N=N) (bY:((".0" : Str)::([x,y]++N)).Nodup)
  (hi:MI X Er (.Tuple [.Name x px,.Name y py] kt tp) iter src) (he:∀cl C af ai fp,ME (fD X scope cl [x,y] C af ai fp (λ_ _=>False)) XN elt fe)
  (hx:scope.names.lookup x=some .local:=by rfl) (hy:scope.names.lookup y=some .local:=by rfl) (hs:∀v,foldedSetIterable iter X.env v=pure v:=by intro _;rfl) :
  ME X Er (.ListComp elt [⟨.Tuple [.Name x px,.Name y py] kt tp,iter,[],0⟩] scope pos) (qB src fe):=by
 have hN:([x,y]++X.N).Nodup:=by rw [eN];exact (jC.mp bY).2
 have fF:∀cl C af ai fp E,PG (fD X scope cl [x,y] C af ai fp E) (.Tuple [.Name x px,.Name y py] kt tp) (xt X.K 2 (rZ (wo 0) (rZ (wo 1) xo))):=λcl C af ai fp E=>xv (n:=2) hc
  (pD (wR (X:=fD X scope cl [x,y] C af ai fp E) (i:=0) hN rfl (.inl (j1 hx)) (.inr (j1 hx)))
  (pD (wR (X:=fD X scope cl [x,y] C af ai fp E) (i:=1) hN rfl (.inl (j1 hy)) (.inr (j1 hy))) xq))
 exact PE.weak (AR (te:=tM X.K X.mg XN fe) (tt:=lQ) hc S eN bY hi fF (λcl C af ai fp=>AL) (λcl C af ai fp=>he cl C af ai fp) hs) fun σ H Q ⟨env,st,ρ,re,rs,h⟩=>⟨env,st,ρ,re,rs,h.then λaq H0 q cK e0 s0 h0 J wk=>by
  cases q with
  | rf n=>exact h0.elim
  | im xs =>
   obtain ⟨hl,h0⟩:=Out.ifp (show Out X.K X.mg aq H0 (if xs.length<=lim then wu fe env xs [] cK else .stuck) (gV X.K X.mg Q) Er from h0)
   obtain ⟨w1,w2,w3⟩:=wk
   refine ⟨λi m ys H=>m=xs.length-i/\i<=xs.length/\ys.length=i/\∃ps st ρ,Rs X.K X.mg ρ H ps ys/\a0 X.K X.mg ρ H st/\Ext aq H0 ρ H/\Out X.K X.mg ρ H (wu fe env (xs.drop i) ps st) (gV X.K X.mg Q) Er,⟨xs.length,by simp,jk _,rfl,[],cK,aq,rfl,s0,Ext.refl,h0⟩,?_⟩
   rintro i m ys H ⟨rfl,hi,hy,ps,st,ρ,cM,rs,ex,h⟩
   by_cases a7:i<xs.length
   ·refine .inr ⟨w1 i ρ H ex a7,y4 (by omega),λv H' yy=>?_⟩
    obtain ⟨x,hx,bK,s2,rx⟩:=w3 i ρ H st v H' ex rs a7 yy
    have hd:xs.drop i=x::xs.drop (i+1):=by
     rw [jK a7]
     have:=(yr.mp hx).2
     rw [this]
    rw [hd] at h
    obtain ⟨p,q,rfl,h⟩:=Oj h
    obtain ⟨a,vs,rfl,h1,h2⟩:=rx
    obtain ⟨u,w,rfl,r1,r2⟩:=Rs.two h2
    refine ⟨a,[u,w],rfl,h1,rfl,u,[w],rfl,w,[],rfl,rfl,[some u,some w],rfl,rfl,?_⟩
    have kM:a8 X.K X.mg ρ H' (some p::some q::env) (some u::some w::σ):=((re.ext (e0.trans (ex.trans bK))).cons r2).cons r1
    simp only [lQ,↓reduceIte]
    exact ⟨_,st,ρ,kM,s2,j8 (Out.ext h bK) λaF H4 y eU e4 s4 h4 v4 r4=>⟨xs.length-(i+1),by omega,rfl,a7,by simp [hy],ps++[y],eU,aF,Rs.snoc r4 (Rs.ext (bK.trans e4) ps cM),s4,(ex.trans bK).trans e4,h4⟩⟩
   ·have e:i=xs.length:=by omega
    subst e
    rw [List.drop_length] at h
    exact .inl ⟨w2 _ ρ H ex (ya _),y4 (by omega),λl hl=>Out.newList h rs cM hl⟩⟩
def uJ:List ((Ai)×(Ai))->zc->Mo (List PV×List PV)
 | [],_,st=>.ok ([],[]) st
 | q::r,env,st=>(q.1 env st).bind λk aa=>(q.2 env aa).bind λx aK=>(uJ r env aK).bind λz aX=>.ok (k::z.1,x::z.2) aX
inductive fU (X:Cx) (Er:XK):List (Option Expr)->List Expr->List ((Ai)×(Ai))->Prop
 | nil:fU X Er [] [] []
 | cons {k v:Expr} {fk fv:Ai} {ks:List (Option Expr)} {vs:List Expr} {fs:List ((Ai)×(Ai))} (hk:ME X Er k fk) (hv:ME X Er v fv) (hr:fU X Er ks vs fs):fU X Er (some k::ks) (v::vs) ((fk,fv)::fs)
def zqR:fU X Er [] [] []:=.nil
def zqS {k v:Expr}{fk fv:Ai}{ks:List (Option Expr)}{vs:List Expr}{fs:List ((Ai)×(Ai))}(hk:ME X Er k fk) (hv:ME X Er v fv) (hr:fU X Er ks vs fs):fU X Er (some k::ks) (v::vs) ((fk,fv)::fs):=.cons hk hv hr
def fU.pps:∀{ks:List (Option Expr)}{vs:List Expr}{fs:List ((Ai)×(Ai))},fU X Er ks vs fs->nr X pos ks vs (fs.map λq=>(tM X.K X.mg Er q.1,tM X.K X.mg Er q.2))
 | _,_,_,.nil=>JH
 | _,_,_,.cons hk hv hr=>JI hk hv hr.pps
def fU.len {ks:List (Option Expr)}{vs:List Expr}{fs:List ((Ai)×(Ai))}(h:fU X Er ks vs fs):ks.length=vs.length/\ks.length=fs.length/\ks.all (·.isSome)=true:=by
 induction h with
 | nil=>exact ⟨rfl,rfl,rfl⟩
 | cons hk hv hr ih=>exact ⟨by simp [ih.1],by simp [ih.2.1],by simpa using ih.2.2⟩
def C5:∀{fs:List ((Ai)×(Ai))}{env:zc}{st:ae}{ρ:Ae}{H:Hp}{σ:L2.St}{Q:List (V×V)->Hp->Prop},a8 K mg ρ H env σ->a0 K mg ρ H st ->
  Out K mg ρ H (uJ fs env st) (λaj H' q bh=>q.1.length=fs.length->q.2.length=fs.length->∀ks vs,Rs K mg aj H' q.1 ks->Rs K mg aj H' q.2 vs->Q (ks.zip vs) H') Er->pS (fs.map λq=>(tM K mg Er q.1,tM K mg Er q.2)) σ H Q
 | [],env,st,ρ,H,σ,Q,re,rs,h=>h.now rs rfl rfl [] [] rfl rfl
 | f::fs,env,st,ρ,H,σ,Q,re,rs,h=>by
  refine ⟨env,st,ρ,re,rs,Out.then h λag H1 k aa e1 s1 h1 v rv=>?_⟩
  refine ⟨env,aa,ag,re.ext e1,s1,Out.then h1 λao H2 x aK e2 s2 h2 u ru=>?_⟩
  refine C5 (env:=env) (st:=aK) (ρ:=ao) ((re.ext e1).ext e2) s2 (Out.then h2 λal H3 z aX e3 s3 h3 l1 l2 ks vs rk nO=>?_)
  exact h3.now s3 (by simp [l1]) (by simp [l2]) (v::ks) (u::vs) ⟨v,ks,rfl,R.ext e3 k (R.ext e2 k rv),rk⟩ ⟨u,vs,rfl,R.ext e3 x ru,nO⟩
def fV:List PV->Option (Ad)
 | []=>some []
 | .str z::r=>(fV r).map (z::·)
 | _::_=>none
def C8 {ρ:Ae}{H:Hp}:∀{xs:An}{zs:Ad}{vs:List V},fV xs=some zs->Rs K mg ρ H xs vs->vs=zs.map V.str
 | [],bs,vs,e,h=>by cases e;cases h;rfl
 | .str i::r,bs,vs,e,h=>by
  simp only [fV,Option.map_eq_some_iff] at e
  obtain ⟨ir,e1,rfl⟩:=e
  obtain ⟨v,r',rfl,h1,h2⟩:=h
  cases h1
  rw [C8 e1 h2]
  rfl
 | .non::_,_,_,e,_=>by cases e
 | .int _::_,_,_,e,_=>by cases e
 | .bl _::_,_,_,e,_=>by cases e
 | .ty _::_,_,_,e,_=>by cases e
 | .tup _::_,_,_,e,_=>by cases e
 | .frl _::_,_,_,e,_=>by cases e
 | .ref _::_,_,_,e,_=>by cases e
 | .fn _::_,_,_,e,_=>by cases e
 | .kd _ _::_,_,_,e,_=>by cases e
 | .exo _ _ _::_,_,_,e,_=>by cases e
def uK (fs:List ((Ai)×(Ai))):Ai:=λenv st=>(uJ fs env (st++[.dic [] []])).bind λq aa=>match fV q.1 with
 | some zs=>if fQ aa[st.length]?=true then .ok (.ref st.length) (aa.set st.length (.dic (l_ (zs.zip q.2) [] []).1 (l_ (zs.zip q.2) [] []).2)) else .stuck
 | none=>.stuck
def Om {keys:List (Option Expr)}{values:List Expr}{fs:List ((Ai)×(Ai))}(h:fU X Er keys values fs) (h0:keys≠[]) (sW:keys.length<=15):ME X Er (.Dict keys values pos) (uK fs):=by
 obtain ⟨l1,l2,l4⟩:=h.len
 exact PE.weak (JK h.pps l4 l1 h0 sW) fun σ H Q ⟨env,st,ρ,re,rs,ho⟩=>λp hp=>by
  have e0:Ext ρ H (ρ++[p]) (upd H p (.dK [])):=Ext.push hp
  have s0:a0 X.K X.mg (ρ++[p]) (upd H p (.dK [])) (st++[.dic [] []]):=rs.push hp ⟨[],yC,rfl,rfl⟩
  have Oo:(ρ++[p])[st.length]?=some p:=by rw [<-rs.len];simp
  refine C5 (re.ext e0) s0 (Out.then (Out.ext ho e0) λag H1 q aa e1 s1 h1 lk lv us vs ru rv=>?_)
  cases hk:fV q.1 with
  | none=>simp only [hk] at h1;exact h1.elim
  | some zs =>
   simp only [hk] at h1
   have eu:=C8 hk ru
   subst eu
   obtain ⟨c,h1⟩:=Out.ifp h1
   have hd:=Nt c
   have uL:=e1.get Oo
   obtain ⟨ws,k1,k2,k3⟩:=s1.addr hd uL
   have ew:ws=[]:=by cases ws with|nil=>rfl|cons=>simp at k3
   subst ew
   have lz:zs.length=fs.length:=by have:=ru.len;simpa [lk] using this.symm
   refine ⟨k1,(zs.map Sum.inr:List Key).zip vs,Cu,by rw [List.length_zip,jV];omega,?_⟩
   have eq:Ext ag H1 ag (upd H1 p (.dK (dF [] ((zs.map Sum.inr:List Key).zip vs)))):=Ext.write k1 rfl
   obtain ⟨us,q1,q2,q3⟩:=Cn (K:=X.K) (mg:=X.mg) (zs:=zs) (ks:=[]) (xs:=[]) (vs:=[]) rv rfl rfl
   exact h1 ag _ eq (s1.write uL eq ⟨us,by rw [yC];exact congrArg (λt=>some (HO.dK t)) q1,Rs.ext eq _ q2,q3⟩) _ ⟨p,rfl,uL⟩
def Oq {z:Str}{ks:Ad}{xs:An}{vs:List V}(hl:xs.length=vs.length) (hk:ks.length=vs.length) (h:(ks.zip xs).lookup z=none):(ks.zip vs).lookup z=none:=by
 refine nZ λhz=>?_
 obtain ⟨i,hi⟩:=List.getElem?_of_mem hz
 have mP:i<xs.length:=by rw [hl,<-hk];exact (yr.mp hi).1
 have:=List.lookup_eq_none_iff.mp h (z,xs[i]) (List.mem_iff_getElem?.mpr ⟨i,by simp [List.getElem?_zip_eq_some,hi,mP]⟩)
 simp at this
end
section
variable {K:Frag}{mg:Ab}{h:Heap}
end
section
variable {X:Cx}{Er:XK}{K:Frag}{mg:Ab}
def call_len_dict:bz X (.builtin "len") (λxs H Q=>∃p kvs,xs=[.ref p]/\H p=some (.dK kvs)/\Q (.int kvs.length) H):=by
 intro pins s σ H xs us Q I r h
 obtain ⟨p,kvs,rfl,hp,q⟩:=h
 obtain ⟨u,rfl,rx⟩:=wI r
 cases rx
 exact JB I (.inl hp) λt s' I'=>⟨.int kvs.length,H,I',⟨t,rfl⟩,q⟩
def yq:Al:=λxs st=>match xs with
 | [.ref n]=>match st[n]? with
  | some (.dic ks _)=>.ok (.int ks.length) st
  | _=>nW xs st
 | _=>nW xs st
def jy:cg X (.builtin "len") yq:=by
 obtain ⟨r,h1,h2⟩:=Lh (X:=X)
 refine ⟨_,h1.or call_len_dict,fun ρ H st xs vs Q E s rx h=>?_⟩
 by_cases hx:∃n ks ys,xs=[.ref n]/\st[n]?=some (.dic ks ys)
 ·obtain ⟨n,ks,ys,rfl,e⟩:=hx
  have h:Out X.K X.mg ρ H (.ok (.int ks.length) st) (gV X.K X.mg Q) E:=by
   simpa only [yq,e] using h
  obtain ⟨v,rfl,rv⟩:=Rs.one rx
  obtain ⟨a,ws,rfl,_,k1,k2,k3⟩:=R.refD s rv e
  refine .inr ⟨a,_,rfl,k1,?_⟩
  have hl:(kz ks ws).length=ks.length:=by simp [kz,k3]
  rw [hl]
  exact Out.now (x:=PV.int ks.length) h s _ rfl
 ·refine .inl (h2 ρ H st xs vs Q E s rx ?_)
  have:yq xs st=nW xs st:=by
   unfold yq
   split
   ·rename_i n
    split
    ·rename_i ks ys e;exact absurd ⟨n,ks,ys,rfl,e⟩ hx
    ·rfl
   ·rfl
  rw [this] at h
  exact h
end
section
variable {α:Type}{env:zc}{st:ae}{fa fb fo fk fx:Ai}{fs:Ah}{g:Aj}
def qC {n:Nat}{ks:Ad}{xs:An}(h:st[n]?=some (.dic ks xs)) (k:List Str->List PV->Res α):y9 st n k=k ks xs:=by unfold y9;rw [h]
def bt {n:Nat}{xs:An}(h:st[n]?=some (.lst xs)):yq [.ref n] st=.ok (.int xs.length) st:=by
 simp only [yq,h]
 show yp st n _=_
 rw [yA h]
@[simp] def kN (xs:An):yq [.tup xs] st=.ok (.int xs.length) st:=(rfl)
@[simp] def Ot (xs:An):yq [.frl xs] st=.ok (.int xs.length) st:=(rfl)
@[simp] def Ou (src:zc->Mo Sq):qB src fa env st=(src env st).bind λq aa=>match rQ q with|some xs=>if xs.length<=lim then wu fa env xs [] aa else .stuck|none=>.stuck:=(rfl)
end
end Mi
namespace L2
open PySem PySem.Spec PyProof.Rows PySem.W
section
variable {X:Cx}
def C9:∀{xs:List V}{us:Af},xs.length=us.length->(∀(i:Nat) x u,xs[i]?=some x->us[i]?=some u->RelV x u)->Vals xs us
 | [],[],_,_=>.nil
 | x::xs,u::us,h,r=>.cons (r 0 x u rfl rfl) (C9 (by simpa using h) λi x u h1 h2=>r (i+1) x u (by simpa using h1) (by simpa using h2))
 | [],_::_,h,_=>by cases h
 | _::_,[],h,_=>by cases h
end
end L2
namespace Mi
open PySem L2 PySem.W PySem.Spec
section
variable {X:Cx}{Er:XK}{pos:Pos}{K:Frag}{mg:Ab}{fs:Ah}
end
end Mi
namespace PySem
open Sem (wp)
def Lr.nolen:typeLookup (.type "list_reverseiterator") "__len__" = pure none:=by rw [typeLookup_type,builtinLookup_eq_fast];kernel_rfl
def Lr.hint:typeLookup (.type "list_reverseiterator") "__length_hint__" = pure (some (.builtin "list_reverseiterator.__length_hint__")):=by rw [typeLookup_type,builtinLookup_eq_fast];kernel_rfl
section
variable {prog:Program}{w:World}{A:Around}{s:Shared}{R:Result->Shared->Prop}
variable {I:Addr}{fp wr:Ae}{G:Array GenState->Array GenState->Prop}{n:Nat}{P:Nat->Value->Prop}{St:Nat->Shared->Prop}
def Lr.extend (W:WalksS prog w A.in1 I fp wr G n P St) (hT:∀i s,St i s->s.TypeIs (.ref I) "list_reverseiterator") (S:Addr) (res:Value) (aR:Nat) (a9:St 0 s) (gP:S∉fp) (hI:I∈fp)
  (hS:s.heap.get? S=some { cls:=.type "list", data:=.seq #[] aR })
  (hR:∀s' bu c',Moved (S::wr) G s s'->s'.heap.get? S=some { cls:=.type "list", dict:=none,data:=.seq bu c',slots:=#[] }->ItemsOf P bu n->R (.ok (.ret res)) s') (hn:n<=sizeLine:=by size_fits) :
  wpAny (model prog w) A.in1 (Builtin.List.listExtendWith (.ref S) (.ref I) res)
   (λfin s'=>match fin with | .done f=>R (.ok f) s' | .again c'=>c'.quiet=true/\codeAny (model prog w) A c' R s') (λe s'=>R (.error e) s') s:=by
 have Ov:S≠I:=λe=>gP (e▸hI)
 unfold Builtin.List.listExtendWith
 refine zl (wpAny_typeOf (hT 0 _ a9) ?_)
 have h1:Builtin.List.listSameRef (.ref S) (.ref I)=false:=by simp [Builtin.List.listSameRef,Ov]
 rw [zF (by rw [h1];decide)]
 refine zl (W.self 0 _ _ _ a9 ?_)
 refine zl (jU ?_)
 unfold Builtin.List.listLengthHint
 refine zl (wpAny_specialOf (hT 0 _ a9) Lr.nolen ?_)
 show wpAny _ A.in1 (specialOf (Value.ref I) (Str.ofString "__length_hint__") >>= _) _ _ _
 refine zl (wpAny_specialOf (hT 0 _ a9) Lr.hint ?_)
 generalize hid:("list_reverseiterator.__length_hint__" : String)=id0
 wp_delta
 rw [show splitId id0=some ("list_reverseiterator", "__length_hint__") from by subst hid;decide +kernel]
 subst hid
 refine zl (wpAny_isInstance (b:=true) (hT 0 _ a9) (by rw [isSubtype_type];kernel_rfl) ?_)
 refine zG ?_
 rw [zF (by decide)]
 refine zG ⟨plainId_quiet F.plain_extend_loop _,codeAny_extend_loopS W hn _ gP _ n 0 _ _ _ rfl (jk _) a9 hS (ItemsOf.nil P) λs' bu c' hm iB cv=>?_⟩
 exact hR s' bu c' hm iB cv
end
section
variable {prog:Program}{w:World}{A:Around}{s:Shared}{R:Result->Shared->Prop}
variable {I:Addr}{fp wr:Ae}{G:Array GenState->Array GenState->Prop}{n:Nat}{P:Nat->Value->Prop}{St:Nat->Shared->Prop}
def Lr.init (W:WalksS prog w A.in1 I fp wr G n P St) (hT:∀i s,St i s->s.TypeIs (.ref I) "list_reverseiterator") (S:Addr) (a9:St 0 s) (gP:S∉fp) (hI:I∈fp)
  (hS:s.heap.get? S=some { cls:=.type "list", data:=.seq #[] })
  (hR:∀s' bu c',Moved (S::wr) G s s'->s'.heap.get? S=some { cls:=.type "list", dict:=none,data:=.seq bu c',slots:=#[] }->ItemsOf P bu n->R (.ok (.ret .none)) s') (hn:n<=sizeLine:=by size_fits) :
  wpAny (model prog w) A.in1 (Builtin.«list.__init__» ⟨[.ref S,.ref I],[]⟩)
   (λfin s'=>match fin with | .done f=>R (.ok f) s' | .again c'=>c'.quiet=true/\codeAny (model prog w) A c' R s') (λe s'=>R (.error e) s') s:=by
 show wpAny _ A.in1 (do let old <-Builtin.List.listItems (.ref S);Builtin.List.listUpdate (.ref S) (λ_=>#[]);letGo old.toList.reverse;Builtin.List.listExtendWith (.ref S) (.ref I) .none) _ _ s
 refine zl ?_
 unfold Builtin.List.listItems
 refine zl (wpAny_seqItems hS rfl (zG ?_))
 show wpAny _ A.in1 (updateSeq S (λ_=>#[]) >>= λ_=>letGo (#[]:Array Value).toList.reverse >>= λ_=>Builtin.List.listExtendWith (.ref S) (.ref I) .none) _ _ s
 refine zl (wpAny_updateSeq hS rfl ?_)
 have aL:=Heap.get?_update_self (Obj.mapSeq (λ_=>(#[]:Array Value))) hS rfl
 have kr:∀b o,b≠S->s.heap.get? b=some o->(s.heap.update S (Obj.mapSeq (λ_=>(#[]:Array Value)))).get? b=some o :=
  λb o hb e=>(jO _ _ (yw hb)).trans e
 refine zl (wpAny_letGo ?_)
 refine Lr.extend (hn:=hn) W hT S .none _ (W.frame 0 s _ s.toks a9 (ya _) λb hb o e=>kr b o (λh=>gP (h▸hb)) e) gP hI aL λs' bu c' hm iB cv=>?_
 exact hR s' bu c' (Moved.trans W.gtrans ((Moved.refl W.grefl).then_heap (ya _) λb o hb e=>kr b o (λh=>hb (h▸y3)) e) hm) iB cv
end
section
variable {prog:Program}{w:World}{A:Around}{E:Aa}{s:Shared}
variable {I:Addr}{fp wr:Ae}{G:Array GenState->Array GenState->Prop}{n:Nat}{P:Nat->Value->Prop}{St:Nat->Shared->Prop}
def Lr.call {Q:Aa} (W:WalksS prog w A.in1.in1 I fp wr G n P St) (hT:∀i s,St i s->s.TypeIs (.ref I) "list_reverseiterator") (a9:St 0 s) (kO:∀b∈fp,b<s.heap.objs.size) (hI:I∈fp)
  (hQ:∀s' bu c',Moved (s.heap.objs.size::wr) G { s with heap:=s.heap.push { cls:=.type "list", data:=.seq #[] } } s' ->
   s'.heap.get? s.heap.objs.size=some { cls:=.type "list", dict:=none,data:=.seq bu c',slots:=#[] }->ItemsOf P bu n->Q (.ref s.heap.objs.size) s') (hn:n<=sizeLine:=by size_fits) :
  wpAny (model prog w) A (call (.type "list") [.ref I]) Q E s:=by
 have gP:s.heap.objs.size∉fp:=λhm=>Nat.lt_irrefl _ (kO _ hm)
 refine callType_codes (Q₁:=λobj ak=>obj=.ref s.heap.objs.size/\ak={ s with heap:=s.heap.push { cls:=.type "list", data:=.seq #[] } }) F.called_list (F.typeCall_list_1 _) F.entry_list_init
  (code_list_new _ ⟨rfl,rfl⟩) λobj ak au=>?_
 obtain ⟨rfl,rfl⟩:=au
 have hS:(s.heap.push { cls:=.type "list", data:=.seq #[] }).get? s.heap.objs.size=some { cls:=.type "list", data:=.seq #[] }:=yB _ rfl
 refine ⟨⟨_,hS,rfl⟩,F.args_list_init_2 _ _,Lr.init (hn:=hn) W hT _ (W.frame 0 s _ s.toks a9 (ya _) λb _ o e=>z9 _ e) gP hI hS λs' bu c' hm iB cv=>?_⟩
 exact ⟨rfl,hQ s' bu c' hm iB cv⟩
end
end PySem
namespace L2
open PySem PySem.Spec PyProof.Rows PySem.W
section
variable {X:Cx}
end
end L2
namespace Mi
open PySem L2 PySem.W PySem.Spec
section
variable {X:Cx}{Er:XK}{pos:Pos}{K:Frag}{mg:Ab}{fs:Ah}
def Rs.app:∀{ρ:Ae}{H:Hp}{xs ys:An}{vs ws:List V},Rs K mg ρ H xs vs->Rs K mg ρ H ys ws->Rs K mg ρ H (xs++ys) (vs++ws)
 | _,_,[],_,_,_,h,h'=>by cases h;exact h'
 | _,_,x::xs,_,_,_,h,h'=>by
  obtain ⟨v,r,rfl,h1,h2⟩:=h
  exact ⟨v,_,rfl,h1,Rs.app h2 h'⟩
def Rs.rev:∀{ρ:Ae}{H:Hp}{xs:An}{vs:List V},Rs K mg ρ H xs vs->Rs K mg ρ H xs.reverse vs.reverse
 | _,_,[],_,h=>by cases h;rfl
 | _,_,x::xs,_,h=>by
  obtain ⟨v,r,rfl,h1,h2⟩:=h
  rw [List.reverse_cons,List.reverse_cons]
  exact Rs.app (Rs.rev h2) ⟨v,[],rfl,h1,rfl⟩
end
section
variable {X:Cx}{Er:XK}{pos pos':Pos}{o i value:Expr}{fo fi fv:Ai}
end
section
variable {X:Cx}
def mi:Al
 | [.int i],st=>.ok (.int (if i<0 then -i else i)) st
 | _,_=>.stuck
def Ow:cg X (.builtin "abs") mi:=⟨_,HL,fun ρ H st xs vs Q E s r h=>by
 unfold mi at h
 split at h
 ·rename_i bh i
  obtain ⟨v,rfl,r1⟩:=r.one
  cases r1
  exact ⟨i,rfl,Out.now (x:=PV.int (if i<0 then -i else i)) h s _ rfl⟩
 ·exact h.elim⟩
def Ox:bootBuiltins "abs" = some (.builtin "abs"):=by decide +kernel
@[simp] def Oy (i:Int) (st:ae):mi [.int i] st=.ok (.int (if i<0 then -i else i)) st:=(rfl)
end
end Mi
namespace L2
open PySem PySem.Spec PyProof.Rows PySem.W
section
variable {prog:Program}{w:World}{A:Around}{E:Aa}{s:Shared}
end
section
variable {X:Cx}{pos:Pos}
end
end L2
namespace Mi
open PySem L2 PySem.W PySem.Spec
section
variable {X:Cx}{Er:XK}{pos:Pos}{e:Expr}{fa:Ai}
end
end Mi
namespace L2
open PySem PySem.Spec PyProof.Rows PySem.W
section
variable {prog:Program}{w:World}{A:Around}{E:Aa}{s:Shared}
end
end L2
namespace Mi
open PySem L2 PySem.W PySem.Spec
section
variable {X:Cx}{Er:XK}{pos:Pos}{cB:List Stmt}{gb:Aj}{fs:Ah}
end
end Mi
namespace L2
open PySem PySem.Spec PyProof.Rows PySem.W
section
variable {prog:Program}{w:World}{A:Around}{E:Aa}{s:Shared}
end
end L2
namespace Mi
open PySem L2 PySem.W PySem.Spec
section
variable {X:Cx}
end
end Mi
namespace L2
open PySem PySem.Spec PyProof.Rows PySem.W
end L2
namespace Mi
open PySem L2 PySem.W PySem.Spec
section
variable {X:Cx}{Er:XK}{pos:Pos}
def cT (ft:Ak) (fe:Ai) (env:zc):List PV->Al
 | [],ys,st=>.ok (.ref st.length) (st++[.lst ys])
 | x::xs,ys,st=>(br (ft (some x::env) st)).bind λb aa=>if b=true then (br (fe (some x::env) aa)).bind λy aK=>cT ft fe env xs (ys++[y]) aK else cT ft fe env xs ys aa
def dg (ft:Ak) (fe:Ai) (env:zc) (n:Nat):Nat->Nat->Al
 | 0,_,_,_=>.stuck
 | m+1,i,ys,st=>yp st n λxs=>match xs[i]? with
  | none=>.ok (.ref st.length) (st++[.lst ys])
  | some x=>(br (ft (some x::env) st)).bind λb aa=>if b=true then (br (fe (some x::env) aa)).bind λy aK=>dg ft fe env n m (i+1) (ys++[y]) aK else dg ft fe env n m (i+1) ys aa
def lx (ft:Ak) (fe:Ai) (env:zc):Sq->Mo PV
 | .im xs,st=>if xs.length<=lim then cT ft fe env xs [] st else .stuck
 | .rf n,st=>dg ft fe env n (lim+1) 0 [] st
def w9 (src:zc->Mo Sq) (ft:Ak) (fe:Ai):Ai:=λenv st=>(src env st).bind λq aa=>lx ft fe env q aa
def C_ {src:zc->Mo Sq}{ft:Ak}{fe:Ai}(σ:L2.St) (H:Hp) (Q:VK) (hh:tM X.K X.mg Er (w9 src ft fe) σ H Q):sE (CT X Er src) (wo 0) (lW X.K X.mg XN ft) (tM X.K X.mg XN fe) 1 σ H Q:=by
 obtain ⟨env,st,ρ,re,rs,h⟩:=hh
 refine ⟨env,st,ρ,re,rs,h.then λaq H0 q cK e0 s0 h0 J wk=>?_⟩
 cases q with
 | im xs =>
  obtain ⟨hl,h0⟩:=Out.ifp h0
  obtain ⟨w1,w2,w3⟩:=wk
  refine ⟨λi m ys H=>m=xs.length-i/\i<=xs.length/\ys.length<=i/\∃ps st ρ,Rs X.K X.mg ρ H ps ys/\a0 X.K X.mg ρ H st/\Ext aq H0 ρ H/\Out X.K X.mg ρ H (cT ft fe env (xs.drop i) ps st) (gV X.K X.mg Q) Er,⟨xs.length,by simp,jk _,jk _,[],cK,aq,rfl,s0,Ext.refl,h0⟩,?_⟩
  rintro i m ys H ⟨rfl,hi,hy,ps,st,ρ,cM,rs,ex,h⟩
  by_cases a7:i<xs.length
  ·refine .inr ⟨w1 i ρ H ex a7,y4 (by omega),λv H' y=>?_⟩
   obtain ⟨x,hx,bK,s2,rx⟩:=w3 i ρ H st v H' ex rs a7 y
   have hd:xs.drop i=x::xs.drop (i+1):=by
    rw [jK a7]
    have:=(yr.mp hx).2
    rw [this]
   rw [hd] at h
   simp only [cT] at h
   have kM:a8 X.K X.mg ρ H' (some x::env) (some v::σ):=(re.ext (e0.trans (ex.trans bK))).cons rx
   refine ⟨[some v],rfl,rfl,some x::env,st,ρ,kM,s2,j8 (Out.ext h bK) λal H3 b aX e3 s3 h3=>?_⟩
   cases b with
   | true=>exact ⟨_,aX,al,kM.ext e3,s3,j8 h3 λaF H4 y eU e4 s4 h4 v4 r4=>⟨xs.length-(i+1),by omega,rfl,a7,by simp;omega,ps++[y],eU,aF,Rs.snoc r4 (Rs.ext ((bK.trans e3).trans e4) ps cM),s4,((ex.trans bK).trans e3).trans e4,h4⟩⟩
   | false=>exact ⟨xs.length-(i+1),by omega,rfl,a7,by omega,ps,aX,al,Rs.ext (bK.trans e3) ps cM,s3,(ex.trans bK).trans e3,h3⟩
  ·have e:i=xs.length:=by omega
   subst e
   rw [List.drop_length] at h
   exact .inl ⟨w2 _ ρ H ex (ya _),y4 (by omega),λl hl=>Out.newList h rs cM hl⟩
 | rf n =>
  obtain ⟨a,ha,rfl⟩:=wk
  refine ⟨λi m ys H=>m+i=lim+1/\ys.length<=i/\∃ps st ρ,Rs X.K X.mg ρ H ps ys/\a0 X.K X.mg ρ H st/\Ext aq H0 ρ H/\ρ[n]?=some a/\Out X.K X.mg ρ H (dg ft fe env n m i ps st) (gV X.K X.mg Q) Er,⟨lim+1,rfl,jk _,[],cK,aq,rfl,s0,Ext.refl,ha,h0⟩,?_⟩
  rintro i m ys H ⟨hm,hy,ps,st,ρ,cM,rs,ex,ha,h⟩
  cases m with
  | zero=>exact h.elim
  | succ m =>
   obtain ⟨xs,hn,h⟩:=jm h
   obtain ⟨vs,hH,hR⟩:=rs.addr hn ha
   cases hx:xs[i]? with
   | none =>
    simp only [hx] at h
    have:vs.length<=i:=by rw [<-hR.len];exact iX.mp hx
    exact .inl ⟨⟨vs,a4.of hH,this⟩,y4 (by omega),λl hl=>Out.newList h rs cM hl⟩
   | some x =>
    simp only [hx] at h
    obtain ⟨v,hv,rv⟩:=hR.get hx
    refine .inr ⟨⟨vs,v,a4.of hH,hv⟩,y4 (by omega),λv' H' y=>?_⟩
    obtain ⟨e1,y⟩:=y
    subst e1
    have e2:=y vs (a4.of hH)
    rw [hv] at e2
    cases e2
    have kM:a8 X.K X.mg ρ H' (some x::env) (some v::σ):=(re.ext (e0.trans ex)).cons rv
    refine ⟨[some v],rfl,rfl,some x::env,st,ρ,kM,rs,j8 h λal H3 b aX e3 s3 h3=>?_⟩
    cases b with
    | true=>exact ⟨_,aX,al,kM.ext e3,s3,j8 h3 λaF H4 y eU e4 s4 h4 v4 r4=>⟨m,jP m,by omega,by simp;omega,ps++[y],eU,aF,Rs.snoc r4 (Rs.ext (e3.trans e4) ps cM),s4,(ex.trans e3).trans e4,e4.get (e3.get ha),h4⟩⟩
    | false=>exact ⟨m,jP m,by omega,by omega,ps,aX,al,Rs.ext e3 ps cM,s3,ex.trans e3,e3.get ha,h3⟩
def Dc {elt iter c:Expr} {x:Str} {px:Pos} {scope:Scope} {src:zc->Mo Sq} {ft:Ak} {fe:Ai} {N:Ad} (hc:X.calm=true) (S:cP X.env.scope scope [x]) (eN:X.N=N) (bY:((".0" : Str)::([x]++N)).Nodup)
  (hi:MI X Er (.Name x px) iter src) (i_:∀cl C af ai fp,MT (fD X scope cl [x] C af ai fp (λ_ _=>False)) XN c ft) (he:∀cl C af ai fp,ME (fD X scope cl [x] C af ai fp (λ_ _=>False)) XN elt fe)
  (hx:scope.names.lookup x=some .local:=by rfl) (hs:∀v,foldedSetIterable iter X.env v=pure v:=by intro _;rfl):ME X Er (.ListComp elt [⟨.Name x px,iter,[c],0⟩] scope pos) (w9 src ft fe):=by
 have hN:([x]++X.N).Nodup:=by rw [eN];exact (jC.mp bY).2
 have fF:∀cl C af ai fp E,PG (fD X scope cl [x] C af ai fp E) (.Name x px) (wo 0):=λcl C af ai fp E=>wR (X:=fD X scope cl [x] C af ai fp E) (i:=0) hN rfl (.inl (j1 hx)) (.inr (j1 hx))
 exact PE.weak (AR (te:=tM X.K X.mg XN fe) (tt:=lW X.K X.mg XN ft) hc S eN bY hi fF (λcl C af ai fp=>AO (i_ cl C af ai fp)) (λcl C af ai fp=>he cl C af ai fp) hs) fun σ H Q hh=>C_ σ H Q hh
@[simp] def Dd {src:zc->Mo Sq}{ft:Ak}{fe:Ai}(env:zc) (st:ae):w9 src ft fe env st=(src env st).bind λq aa=>lx ft fe env q aa:=(rfl)
end
section
variable {K:Frag}{h:Heap}{mg:Ab}{od:Option Addr}{f:Addr}
end
section
variable {X:Cx}{Er:XK}{pos:Pos}
end
section
variable {X:Cx}{Er:XK}{pos:Pos}
end
section
variable {X:Cx}{Er:XK}{pos pos':Pos}{o i value:Expr}{fo fi fv:Ai}
end
end Mi
namespace L2
open PySem PySem.Spec PyProof.Rows PySem.W
section
variable {X:Cx}
def iC (z:Str):Value->Bool
 | .str y _=>y==z
 | _=>false
def uM (z:Str):∀{us:Af}{ys:Ad},StrsAre us ys->∀(i:Nat) (h:i<us.length) (h':i<ys.length),iC z us[i]=(ys[i]==z)
 | _,_,.nil,i,h,_=>by simp at h
 | _,_,.cons y t r,0,_,_=>rfl
 | _,_,.cons y t r,i+1,h,h'=>by
  simp only [List.getElem_cons_succ]
  exact uM z r i (by simpa using h) (by simpa using h')
def De:∀{us:Af}{ys:Ad},StrsAre us ys->us.length=ys.length
 | _,_,.nil=>rfl
 | _,_,.cons _ _ r=>by simp [De r]
def Df {A:Around}{s:Shared}(z:Str) (t:Tok):∀{us:Af}{ys:Ad},StrsAre us ys->∀u∈us,SeqAt.EqAt A s u (.str z t) (iC z u)
 | _,_,.nil,u,h=>by cases h
 | _,_,.cons y t' r,u,h=>by
  rcases yL.mp h with rfl|h
  ·exact SeqAt.EqAt.str_str _ _ _ _
  ·exact Df z t r u h
def Oz:xZ X "list.index" (λx xs H Q=>∃(a:Addr) (ys:Ad) (z:Str),x=.ref a/\xs=[.str z]/\a4 X.K H a (ys.map V.str)/\z∈ys/\ys.length<=1000000/\Q (.int (ys.idxOf z:Nat)) H):=by
 intro pins s σ H x xs v us Q I rx rxs h
 obtain ⟨a,ys,z,rfl,rfl,hq,hz,hl,q⟩:=h
 obtain rfl:v=Value.ref a:=rx
 cases rxs with
 | cons r1 r2 =>
  cases r2
  obtain ⟨t,rfl⟩:=r1
  obtain ⟨its,r,pl,_⟩:=I.list hq
  have sa:=cF r
  obtain ⟨⟨cls,dd,data,sl⟩,ho,hc,n,hd⟩:=pl.isList
  simp only at hc hd
  subst hc hd
  have hlen:=De sa
  have hj:ys.idxOf z<ys.length:=List.idxOf_lt_length_iff.mpr hz
  refine call_meets PySem.F.slot_list_index ⟨_,ho,rfl⟩ PySem.F.entry_list_index (PySem.F.args_list_index_2 _ _)
   (SeqAt.list_indexAt a its.toArray n dd sl (.str z t) (iC z) (ys.idxOf z) (by simpa [hlen] using hj) (by omega) ?_ ?_) ⟨ho,λy hy=>Df z t sa y (by simpa using hy),⟨.int (ys.idxOf z:Nat),H,I.tok _,⟨_,rfl⟩,q⟩⟩
  ·show iC z its[ys.idxOf z]=true
   rw [uM z sa _ (by omega) hj]
   simpa using List.getElem_idxOf hj
  ·intro j OA a7
   show iC z its[j]=false
   rw [uM z sa j (by simpa using OA) (by omega)]
   exact List.not_of_lt_findIdx (p:=(·==z)) a7
end
end L2
namespace Mi
open PySem L2 PySem.W PySem.Spec
section
variable {X:Cx}{Er:XK}
def OB:Am
 | .ref n,.str z,st=>yp st n λxs=>match strsOf xs with
  | some zs=>if z∈zs/\zs.length<=1000000 then .ok (.int (zs.idxOf z:Nat)) st else .stuck
  | none=>.stuck
 | _,_,_=>.stuck
def qD (fo fa:Ai):Ai:=λenv st=>(fo env st).bind λo aa=>(gk o aa).bind λo aa=>(fa env aa).bind λy aK=>OB o y aK
def OC {K:Frag}{mg:Ab}{ρ:Ae}{H:Hp}:∀{xs:An}{zs:Ad}{vs:List V},strsOf xs=some zs->Rs K mg ρ H xs vs->vs=zs.map V.str:=λ{xs zs vs} h r=>by
 have:=Cm h r
 rw [this]
 simp [kV,List.map_map,Function.comp_def]
def zq3 {o e:Expr} {fo fa:Ai} {apos aV:Pos} (ho:ME X Er o fo) (he:ME X Er e fa) (bX:attributeBase o "index" X.env (eval o X.env)=eval o X.env:=by rfl)
  (eh:((backTo aV (starEach [e] X.env)).all (λx=>!x.1)&&(backToKw aV (keywordEach [] X.env)).all (λx=>x.1.isSome)&&decide ([e].length+([]:List Keyword).length+(if ([]:List Keyword).isEmpty then 0 else 1)<30))=true:=by rfl)
  (c7:(apos.endLine==aV.line)=true:=by rfl) (hs:starEach [e] X.env=(false,eval e X.env)::starEach [] X.env:=by rfl) (bp:(backTo aV (starEach [] X.env)).any (·.1)=false:=by rfl):ME X Er (.Call (.Attribute o "index" apos) [e] [] aV) (qD fo fa) :=
 PE.weak (su PySem.F.plainAttrs_list PySem.F.slot_list_index PySem.F.type_list_index Oz ho (pK he pJ hs) bX eh c7 hs bp) fun σ H Q ⟨env,st,ρ,re,rs,h⟩=>⟨env,st,ρ,re,rs,h.then λag H1 x aa e1 s1 h1 v rv=>by
  obtain ⟨n,xs,rfl,hn,h1⟩:=ug h1
  obtain ⟨a,vs,rfl,ha,k1,k2⟩:=R.refL s1 rv hn
  refine ⟨.inl ⟨rfl,vs,a4.of k1⟩,env,aa,ag,re.ext e1,s1,h1.then λao H2 y aK e2 s2 h2 w rw'=>?_⟩
  cases y with
  | str z =>
   cases rw'
   obtain ⟨l8,du,h2⟩:=jm (show Out X.K X.mg ao H2 (yp aK n λxs=>match strsOf xs with
    | some zs=>if z∈zs/\zs.length<=1000000 then .ok (.int (zs.idxOf z:Nat)) aK else .stuck
    | none=>.stuck) (gV X.K X.mg Q) Er from h2)
   obtain ⟨ws,q1,q2⟩:=s2.addr du (e2.get ha)
   cases hz:strsOf l8 with
   | none=>simp only [hz] at h2;exact h2.elim
   | some zs =>
    simp only [hz] at h2
    obtain ⟨⟨c1,c2⟩,h2⟩:=Out.ifp h2
    have:=OC hz q2
    subst this
    exact ⟨a,zs,z,rfl,rfl,a4.of q1,c1,c2,Out.now (x:=PV.int (zs.idxOf z:Nat)) h2 s2 _ rfl⟩
  | _=>exact h2.elim⟩
end
section
variable {X:Cx}{K:Frag}{mg:Ab}
end
end Mi
namespace Mi
open PySem L2 PySem.W
section
variable {α:Type}{g g':Aj}{f fa fb fc:Ai}{fs:Ah}{t ta tb:Ak}{e e1:zc}{st s1 s2 s3:ae}{x y v:PV}{xs:An}{b:Bool}
def zw {X:Res Fl}(h:g e st=.ok (.nx e1) s1) (h':g' e1 s1=X):zp g g' e st=X:=by rw [uq,h,zJ,Mw,h']
def yP (h:g e st=.ok (.rt v) s1):zp g g' e st=.ok (.rt v) s1:=by rw [uq,h,zJ,Mx]
def zO {i:Nat}(h:f e st=.ok v s1):zK i f e st=.ok (.nx (e.set i (some v))) s1:=by rw [My,h,zJ]
def oF (h:f e st=.ok v s1):j7 f e st=.ok (.nx e) s1:=by rw [Mz,h,zJ]
def zU (h:f e st=.ok v s1):zL f e st=.ok (.rt v) s1:=by rw [B1,h,zJ]
def yM {X:Res Fl}(h:t e st=.ok true s1) (h':g e s1=X):zS t g g' e st=X:=by rw [B2,h,zJ,zA rfl,h']
def Dg {X:Res Fl}(h:t e st=.ok false s1) (h':g' e s1=X):zS t g g' e st=X:=by rw [B2,h,zJ,zF (by simp),h']
def yi (h:t e st=.ok false s1):zS t g zX e st=.ok (.nx e) s1:=Dg h (Mv ..)
def zg {i:Nat}(h:e[i]?=some (some v)):zd i e st=.ok v st:=by rw [Mc,h]
def zm {op:Am}{X:Res PV}(h:fa e st=.ok x s1) (h':fb e s1=.ok y s2) (h2:op x y s2=X):zh op fa fb e st=X:=by rw [Md,h,zJ,h',zJ,h2]
def wO {op:PV->Mo PV}{X:Res PV}(h:fa e st=.ok x s1) (h2:op x s1=X):yz op fa e st=X:=by rw [Me,h,zJ,h2]
def zD {m:Al}{X:Res PV}(h:fs e st=.ok xs s1) (h2:m xs s1=X):zt m fs e st=X:=by rw [Mp,h,zJ,h2]
def qE (h:f e st=.ok x s1) (h':fs e s1=.ok xs s2):ze f fs e st=.ok (x::xs) s2:=by rw [zev,h,zJ,h',zJ]
def we:zk e st=.ok [] st:=(rfl)
def zI (h:f e st=.ok x s1):ze f zk e st=.ok [x] s1:=qE h we
def zP (h:f e st=.ok x s1) (h':fa e s1=.ok y s2):ze f (ze fa zk) e st=.ok [x,y] s2:=qE h (zI h')
def yl (h:fs e st=.ok xs s1) (hl:xs.length<=1000000):zW fs e st=.ok (.tup xs) s1:=by rw [B0,h,zJ,zA hl]
def wf (h:fs e st=.ok xs s1) (hl:xs.length<=1000000):y6 fs e st=.ok (.ref s1.length) (s1++[.lst xs]):=by rw [Mj,h,zJ,zA hl]
def zY (h:f e st=.ok (.bl b) s1):mB f e st=.ok b s1:=by rw [Mf,h,zJ,BW]
def mj (h:ta e st=.ok false s1):jE ta tb e st=.ok false s1:=by rw [BX,h,zJ,zF (by simp)]
def wv (h:ta e st=.ok true s1) (h':tb e s1=.ok b s2):jE ta tb e st=.ok b s2:=by rw [BX,h,zJ,zA rfl,h']
def uN (h:ta e st=.ok true s1):wJ ta tb e st=.ok true s1:=by rw [BZ,h,zJ,zA rfl]
def Dh (h:ta e st=.ok false s1) (h':tb e s1=.ok b s2):wJ ta tb e st=.ok b s2:=by rw [BZ,h,zJ,zF (by simp),h']
def Di (h:ta e st=.ok b s1):lY ta e st=.ok (!b) s1:=by rw [Mg,h,zJ]
def qF {X:Res PV}(h:fa e st=.ok (.bl true) s1) (h':fb e s1=X):kB fa fb e st=X:=by rw [Mh,h,zJ,BW,zJ,zA rfl,h']
def Dj {lo hi:Option Int}{fl fu:zc->Mo (Option Int)}{X:Res PV}(h:fa e st=.ok x s1) (hl:fl e s1=.ok lo s2) (hu:fu e s2=.ok hi s3) (h':nU x lo hi s3=X):kC fa fl fu e st=X:=by rw [Ml,h,zJ,hl,zJ,hu,zJ,h']
def Dk {i:Int}(h:f e st=.ok (.int i) s1):d5 f e st=.ok (some i) s1:=by rw [Mm,h,zJ,Mn]
def Dl:eV e st=.ok none st:=(rfl)
def uO {op:Am}{n:Nat}{ys:An}{X:Res PV}(h:fa e st=.ok (.ref n) s1) (hl:s1[n]?=some (.lst ys)) (h':fb e s1=.ok y s2) (h2:op (.ref n) y s2=X):w6 op fa fb e st=X:=by
 rw [ML,h,zJ,MP]
 simp only [yp,hl,zJ]
 rw [h',zJ,h2]
def qG (i j:Int):yx (.int i) (.int j) st=.ok (.int (i+j)) st:=(rfl)
def ml (i j:Int):wq (.int i) (.int j) st=.ok (.int (i-j)) st:=(rfl)
def uP (i j:Int) (h:j≠0):yH (.int i) (.int j) st=.ok (.int (yU i j)) st:=by show (if _ then _ else _)=_;rw [zA (by simpa using h)]
def oG (i j:Int) (h:j≠0) (h2:j.natAbs<2 ^ 200):jF (.int i) (.int j) st=.ok (.int (yY i j)) st:=by
 show (if _ then _ else _)=_
 rw [zA]
 simp only [p_,js,iY]
 exact ⟨h,h2⟩
def uQ (i j:Int):jX (.int i) (.int j) st=.ok (.bl (decide (i<j))) st:=(rfl)
def OD (i j:Int):jo (.int i) (.int j) st=.ok (.bl (decide (j<i))) st:=(rfl)
def OE (i j:Int):yc (.int i) (.int j) st=.ok (.bl (decide (i=j))) st:=by simp [Mi.plain,dep,bo];rfl
def OG (i j:Int):ju (.int i) (.int j) st=.ok (.bl (!decide (i=j))) st:=by simp [Mi.plain,dep,bo];rfl
def OH (i j:Str):yc (.str i) (.str j) st=.ok (.bl (decide (i=j))) st:=by simp [Mi.plain,dep,bo];rfl
def uR (i j:Str):ju (.str i) (.str j) st=.ok (.bl (!decide (i=j))) st:=by simp [Mi.plain,dep,bo];rfl
def mm (i j:Int) (h:bW i j=true):jq (.int i) (.int j) st=.ok (.int (i*j)) st:=by rw [Nn,zA h]
def zV {m:Nat}{n:Nat}{r:ae}(hl:xs.length=m) (h:g (xs.map some++List.replicate (n-m) none) st=.ok (.rt v) r):zH m n g xs st=.ok v r:=by
 unfold zH
 rw [zA hl,h,zJ,MC]
end
end Mi
namespace Mi
open PySem L2 PySem.W PySem.Spec
def Dm:Expr->Bool
 | .Starred _ _=>false
 | _=>true
def OI {e:Expr}{es:List Expr}{env:Env}(h:Dm e=true):Ck e es env:=by cases e<;>first|rfl|cases h
def zj {X:Cx}{Er:XK}{e:Expr}{es:List Expr}{fa:Ai}{fs:Ah}(ha:ME X Er e fa) (hr:MA X Er es fs) (hs:Dm e=true:=by rfl):MA X Er (e::es) (ze fa fs):=Bw ha hr (OI hs)
section
variable {X:Cx}{K:Frag}{mg:Ab}{Er:XK}{e o:Expr}{pos apos aV:Pos}{fo fa:Ai}{x:Str}{h:Heap}
end
end Mi
namespace PySem
section
variable {M:Model}{A:Around}{E:Aa}
variable {nm q Wn q':Str}{C N B N':Addr}{bs bm Wo Wq:Af}{b9 OJ:Bool}{sn Wr:Ad}{sub Vy:Af}{ab Ws:Bool}{col Vz:Option Bool}{dd ic:Option Addr}{k0 k1 k2 k3 k5 Wt Wu Wv Dp Ww:Option Value}{newId Ge:String}
end
end PySem
namespace L2
open PySem PySem.Spec PyProof.Rows PySem.W
structure OK (K:Frag) (C B:Addr):Prop where
 of:fK K C
 sub:mroIn K C (.ref B)=some true
end L2
namespace Mi
open PySem L2 PySem.W PySem.Spec
section
variable {X:Cx}{Er:XK}{pos:Pos}
end
end Mi
namespace L2
open PySem PySem.Spec PyProof.Rows PySem.W
end L2
namespace Mi
open PySem L2 PySem.W PySem.Spec
section
variable {X:Cx}{Er:XK}{pos:Pos}{o:Expr}{cB:List Stmt}{gb:Aj}{fo:Ai}{fs:Ah}
end
end Mi
namespace L2
open PySem PySem.Spec PyProof.Rows PySem.W PySem.Builtin PySem.Builtin.ObjectAttr
end L2
namespace Mi
open PySem L2 PySem.W PySem.Spec
section
variable {K:Frag}{mg:Ab}{h:Heap}{C:Addr}
end
section
variable {P:Program}{W:World}{A:Around}{s:Shared}
end
section
variable {X:Cx}{K:Frag}{mg:Ab}{ρ:Ae}{pins:Ac}{σ:L2.St}{H:Hp}{s:Shared}{st:ae}
end
section
variable {X:Cx}{K:Frag}{mg:Ab}{Er:XK}{e o:Expr}{es:List Expr}{pos p apos:Pos}{fs:Ah}{fo fa:Ai}
end
end Mi
namespace Mi
open PySem L2 PySem.W PySem.Spec PyProof.Rows
section
variable {prog:Program}{w:World}{A:Around}{E:Aa}{s:Shared}
end
section
variable {X:Cx}{Er:XK}
end
section
variable {prog:Program}{w:World}{A:Around}{E:Aa}{s:Shared}
end
section
variable {prog:Program}{w:World}{A:Around}{E:Aa}{s:Shared}
end
section
variable {X:Cx}{Er:XK}{o:Expr}{fo:Ai}{p pos kp cp:Pos}{j:Nat}
end
section
variable {X:Cx}{Er:XK}
end
end Mi
namespace Mi
open PySem L2 PySem.W PySem.Spec
end Mi
namespace HT
open PySem PySem.Spec PyProof.Rows
section
variable {prog:Program}{w:World}{A:Around}{E:Aa}{s:Shared}
end
end HT
namespace Mi
open PySem L2 PySem.W PySem.Spec PyProof.Rows
section
variable {X:Cx}{K:Frag}{mg:Ab}{Er:XK}{e k:Expr}{p2 pos:Pos}{fa:Ai}{fk:zc->Mo (Option Int)}
end
section
variable {X:Cx}{K:Frag}{mg:Ab}{Er:XK}
end
end Mi
namespace Mi
open PySem L2 PySem.W PySem.Spec
section
variable {X:Cx}{Er:XK}{pos:Pos}
def OL {elt iter c:Expr} {x:Str} {px:Pos} {scope:Scope} {src:zc->Mo Sq} {ft:Ak} {fe:Ai} {M:Ad} (hc:X.calm=true) (S:cP X.env.scope scope [x]) (eN:Hid scope M X.N) (bY:((".0" : Str)::([x]++M)).Nodup)
  (hi:MI X Er (.Name x px) iter src) (i_:∀cl C af ai fp,MT (dh X M scope cl [x] C af ai fp (λ_ _=>False)) XN c ft) (he:∀cl C af ai fp,ME (dh X M scope cl [x] C af ai fp (λ_ _=>False)) XN elt fe)
  (hx:scope.names.lookup x=some .local:=by rfl) (hs:∀v,foldedSetIterable iter X.env v=pure v:=by intro _;rfl):ME X Er (.ListComp elt [⟨.Name x px,iter,[c],0⟩] scope pos) (w9 src ft fe):=by
 have hN:([x]++M).Nodup:=(jC.mp bY).2
 have fF:∀cl C af ai fp E,PG (dh X M scope cl [x] C af ai fp E) (.Name x px) (wo 0):=λcl C af ai fp E=>wR (X:=dh X M scope cl [x] C af ai fp E) (i:=0) hN rfl (.inl (j1 hx)) (.inr (j1 hx))
 exact PE.weak (sF (te:=tM X.K X.mg XN fe) (tt:=lW X.K X.mg XN ft) hc S eN bY hi fF (λcl C af ai fp=>AO (i_ cl C af ai fp)) (λcl C af ai fp=>he cl C af ai fp) hs) fun σ H Q hh=>C_ σ H Q hh
end
end Mi
namespace L2
open PySem PySem.Spec PyProof.Rows PySem.W
end L2
namespace Mi
open PySem L2 PySem.W PySem.Spec
section
variable {X:Cx}{Er:XK}{e o:Expr}{apos:Pos}{fo fa:Ai}
end
end Mi
namespace L2
open PySem PySem.Spec PyProof.Rows PySem.W Mi
section
variable {X:Cx}{pins:Ac}{σ:St}{H H':Hp}{s:Shared}{a b:Addr}{its:List (List Key×Addr×Value)}{k:List Key}{A:Around}{E:Aa}{r:Value}
end
end L2
namespace Mi
open PySem L2 PySem.W PySem.Spec
section
variable {X:Cx}{Er:XK}{K:Frag}{mg:Ab}{ρ:Ae}{H:Hp}{st:ae}{pos pos':Pos}{o:Expr}
end
section
variable {X:Cx}{Er:XK}{K:Frag}{mg:Ab}{ρ:Ae}{H:Hp}{st:ae}{pos pos':Pos}{o:Expr}
end
section
variable {X:Cx}{K:Frag}{mg:Ab}{ρ:Ae}{H:Hp}{st:ae}
end
end Mi
namespace L2
open PySem PySem.Spec PyProof.Rows PySem.W
def rR (K:Frag) (a:Addr):It :=
 ⟨λi H=>∃xs x,ba K H a xs/\xs[i]?=some x,
  λi H v H'=>∃T x,H T=none/\v=.ref T/\H'=upd H T (.tup [.int i,x])/\∀xs,ba K H a xs->xs[i]?=some x,
  λi H=>∃xs,ba K H a xs/\xs.length<=i⟩
def rS (e it a:Addr) (k:Nat) (h:Heap):Prop:=(∃old,IsEnum h e it k old)/\IsTupIter h it a k
def OM {prog:Program}{w:World}{A:Around}{it t:Addr}{xs:Array Value}(ne:t≠it) (hh:A.handled=none):Draws prog w A it [it,t] xs.size (λi x=>xs[i]?=some x) (nH it t xs) where
 live:=λi h q=>let ⟨⟨o,ho,_⟩,_⟩:=q;⟨o,ho⟩
 frame:=λi h h' q k=>(wT (prog:=prog) (w:=w) ne).at_ q (k it (by simp)) (k t (by simp))
 item:=λi s Q E hi q hQ=>(wT ne).item q (Array.getElem?_eq_getElem hi) λh' q' sb=>hQ _ h' s.toks (Array.getElem?_eq_getElem hi) q' sb
 done:=λs Q E q hE=>(wT ne).stop hh q (Array.getElem?_eq_none (ya _)) hE
def OO {prog:Program}{w:World}{A:Around}{E:Aa}{s:Shared}{e it t:Addr}{i:Nat}{xs:Array Value}{old:Value}{Q:Option Value->Shared->Prop}(ne:t≠it) (hh:A.handled=none)
  (he:IsEnum s.heap e it i old) (hit:IsTupIter s.heap it t i) (p:IsTup s.heap t xs) (hi:xs.size<=i) (hQ:∀h',Heap.ExtBut it s.heap h'->Q none { s with heap:=h' }):wpAny (model prog w) A (pyNext (.ref e)) Q E s:=by
 have D:Draws prog w A.in1 it [it,t] i (λj x=>xs[j]?=some x/\j<i/\False) (λj h=>j=i/\nH it t xs j h):=⟨λj h q=>let ⟨_,⟨o,ho,_⟩,_⟩:=q;⟨o,ho⟩,λj h h' q k=>⟨q.1,(wT (prog:=prog) (w:=w) ne).at_ q.2 (k it (by simp)) (k t (by simp))⟩,
  λj s Q E hj q _=>absurd q.1 (by omega),λs Q E q hE=>(wT ne).stop hh q.2 (Array.getElem?_eq_none hi) hE⟩
 exact wpAny_pyNext_enum_endD D he ⟨rfl,hit,p⟩ hQ
def OQ {P:Program}{w:World}{K:Frag}{elts:List Expr}{kt:Nat}{pos:Pos}{e it a:Addr}(ne:e≠it):Turn P w K (.Tuple elts kt pos) (rR K a) [e,it] e (rS e it a) where
 mem:=by simp
 obj:=λi h st c hc=>by
  obtain ⟨⟨old,he⟩,⟨o1,e1,_,d1⟩⟩:=st
  simp only [yL,List.not_mem_nil,wQ] at hc
  rcases hc with q|q<;>rw [q]
  ·exact ⟨_,he,λv z=>by cases z⟩
  ·exact ⟨_,e1,λv z=>by rw [d1] at z;cases z⟩
 keep:=λi h h' st k=>by
  obtain ⟨⟨old,he⟩,⟨o1,e1,r1⟩⟩:=st
  exact ⟨⟨old,k e (by simp) _ he⟩,⟨o1,k it (by simp) _ e1,r1⟩⟩
 item:=by
  intro X hP hw hK hc i pins s σ H E I hf st hg
  subst hP hw hK
  obtain ⟨xs,x,hq,hx⟩:=hg
  obtain ⟨⟨old,he⟩,hit⟩:=st
  obtain ⟨its,rv,p,hz⟩:=I.tuple hq
  obtain ⟨u,hu,ru⟩:=rv.get hx
  have n1:∀c∈[e,it],a≠c:=λc h=>lV I (hf c h) hq
  have na:a≠it:=n1 it (by simp)
  have OR:a≠e:=n1 e (by simp)
  have a7:i<its.toArray.size:=by have:=(yr.mp hu).1;simpa using this
  refine wpAny_pyNext_enum_itemD (D:=OM (A:=X.A.in1) na (I.ok.hd hc)) he ⟨hit,p⟩ a7 ne (by simp;exact ⟨ne,λz=>OR z.symm⟩) λx1 h1 tk OS eo oj pT hsz kk=>⟨_,rfl,?_⟩
  have xu:x1=u:=by
   have h0:its.toArray[i]?=some x1:=OS
   rw [List.getElem?_toArray,hu] at h0
   exact (Option.some.inj h0).symm
  subst xu
  refine wpAny_letOwnedTupleGo_enum (s:={ s with heap:=h1,toks:=tk+1 }) eo λh2 e2 sb=>?_
  have fr:H s.heap.objs.size=none:=I.hok.fresh (ya _)
  have up:∀c o,c≠e->h1.get? c=some o->h2.get? c=some o:=λc o n q=>sb.extBut _ _ n q
  have nz:s.heap.objs.size≠e:=Nat.ne_of_gt (yh he)
  have k2:∀c o,c∉[e,it]->s.heap.get? c=some o->h2.get? c=some o:=λc o nc q=>up c o (λz=>nc (by simp [z])) (kk c o (λz=>nc (by simp [z])) (λz=>nc (by simp [z])) q)
  refine ⟨.ref s.heap.objs.size,upd H s.heap.objs.size (.tup [.int i,x]),?_,rfl,⟨s.heap.objs.size,x,fr,rfl,rfl,λys hy=>by rw [I.tuple_inj hy hq];exact hx⟩,?_,λc cw=>?_⟩
  ·exact Inv.turnN (s:=s) (h':=h2) (t':=tk+1) I hf k2 (ya _) ⟨show 2<=sizeLine by decide,[.int i tk,x1],.cons ⟨_,rfl⟩ (.cons ru .nil),_,up _ _ nz pT,rfl,_,rfl⟩
  ·refine ⟨⟨x1,by rw [show ((i+1:Nat):Int)=(i:Int)+1 from rfl];exact e2⟩,let ⟨⟨o,q,r⟩,_⟩:=oj;⟨o,up _ _ ne.symm q,r⟩⟩
  ·have lt:∃o,s.heap.get? c=some o:=by
    simp only [yL,List.not_mem_nil,wQ] at cw
    rcases cw with q|q<;>rw [q]
    ·exact ⟨_,he⟩
    ·exact let ⟨o,q,_⟩:=hit;⟨o,q⟩
   obtain ⟨o,q⟩:=lt
   have z:c≠s.heap.objs.size:=yD (yh q)
   rw [zM z]
   exact (hf c cw).1
 done:=by
  intro X hP hw hK hc i pins s σ H E I hf st hg
  subst hP hw hK
  obtain ⟨xs,hq,hx⟩:=hg
  obtain ⟨⟨old,he⟩,hit⟩:=st
  obtain ⟨its,rv,p,hz⟩:=I.tuple hq
  have hl:=rv.length
  have n1:∀c∈[e,it],a≠c:=λc h=>lV I (hf c h) hq
  refine OO (n1 it (by simp)) (I.ok.hd hc) he hit p (by simp;omega) λh' eb=>⟨rfl,?_⟩
  exact Inv.turnL (ch:=[e,it]) (t':=s.toks) I hf λc o nc q=>eb c o (λz=>nc (by simp [z])) q
 self:=λ_ _ _ _ _ st h=>by
  obtain ⟨⟨old,he⟩,_⟩:=st
  exact wpAny_pyIter_enum he h
def OT (K:Frag) (ta:TA):TI:=fun σ H R=>ta σ H λvs H1=>∃a,vs=[.ref a]/\(∃xs,ba K H1 a xs)/\R (rR K a) H1
abbrev qH (h:Heap) (a:Addr):Heap:=h.push { cls:=.type "tuple_iterator", data:=.fields #[.ref a,.int 0 0] }
abbrev mq (h:Heap) (a:Addr):Heap:=(qH h a).push { cls:=.type "enumerate", data:=.fields #[.none,.bool false,.ref h.objs.size,rawInt 0,.none,.none] }
def OU (a:Addr) (xs:Array Value) :
  Meets (Builtin.«enumerate.__new__» ⟨[.type "enumerate", .ref a],[]⟩) (λ_ R s=>IsTup s.heap a xs/\R (.ok (.ret (.ref (qH s.heap a).objs.size))) { s with heap:=mq s.heap a }) :=
 .of_wp λprog w A R s h=>by
  obtain ⟨hp,g,d,tk,os⟩:=s
  obtain ⟨h1,h⟩:=h
  have rK:=sub_enumerate
  have H1:IsTup (Shared.heap ⟨hp,g,d,tk,os⟩) a xs:=h1
  obtain ⟨⟨cl,dd,dt,sl⟩,ho,hcl,n,hd⟩:=id H1
  replace hcl:cl=.type "tuple" := hcl
  replace hd:dt=.seq xs n:=hd
  subst hcl hd
  wp_walk using AutoSeq1.wpAny_loadPart' ho
  refine wpAny_stack_any λst=>zG ?_
  split
  ·rename_i c _ _ _ _ _
   cases (c==Value.type "enumerate")
   all_goals (wp_walk using AutoSeq1.wpAny_loadPart' ho,iter_tuple H1;exact ⟨_,rfl,h⟩)
  ·wp_walk using AutoSeq1.wpAny_loadPart' ho,iter_tuple H1
   exact ⟨_,rfl,h⟩
def OV {prog:Program}{w:World}{A:Around}{E:Aa}{s:Shared}{a:Addr}{xs:Array Value}{Q:Aa}(h1:IsTup s.heap a xs)
  (h:rS (s.heap.objs.size+1) s.heap.objs.size a 0 (mq s.heap a)->Q (.ref (s.heap.objs.size+1)) { s with heap:=mq s.heap a }) :
  wpAny (model prog w) A (call (.type "enumerate") [.ref a]) Q E s:=by
 refine callType_new F.called_enumerate (by decide) (F.typeCall_enumerate_1 _) (F.newCall_enumerate_1 _) (λobj=>F.args_object_init_2 obj _) F.entry_enumerate_new (OU a xs) ⟨h1,?_⟩
 have z1:(qH s.heap a).objs.size=s.heap.objs.size+1:=Heap.size_push ..
 have g2:(mq s.heap a).get? (qH s.heap a).objs.size=some _:=yB _ rfl
 have g1:(mq s.heap a).get? s.heap.objs.size=some _:=z9 _ (yB _ rfl)
 show _/\_
 rw [z1] at g2
 rw [z1]
 exact ⟨⟨_,g2,rfl⟩,h ⟨⟨_,g2⟩,⟨_,g1,rfl,rfl⟩⟩⟩
def OW {X:Cx} {elts:List Expr} {kt:Nat} {tp:Pos} {x:Expr} {ta:TA} {p pos:Pos} (hg:Gl X "enumerate") (hm:X.mg "enumerate" = none) (ha:PA X [x] ta) (hs:starEach [x] X.env=[(false,eval x X.env)]:=by rfl) :
  PI X (.Tuple elts kt tp) (.Call (.Name "enumerate" p) [x] [] pos) (OT X.K ta):=by
 intro pins s σ H R I h
 refine Call_ (wH I hg hm Cp (PyProof.Rows.callWith_type1 (aS (ha pos pins s σ H _ I h) λus s1 ⟨vs,H1,I1,r1,q1⟩=>?_) hs rfl))
 obtain ⟨a,e,⟨xs,hq⟩,q⟩:=q1
 subst e
 obtain ⟨u,rfl,ru⟩:=r1.one
 obtain rfl:u=Value.ref a:=ru
 obtain ⟨its,_,p1,_⟩:=I1.tuple hq
 have kk:∀b o,s1.heap.get? b=some o->(mq s1.heap a).get? b=some o:=λb o q=>z9 _ (z9 _ q)
 refine OV p1 λDq=>wpAny_pyIter_enum Dq.1.choose_spec ?_
 have ne:∀(n:Nat),n+1≠n:=λn z=>by omega
 refine ⟨_,[s1.heap.objs.size+1,s1.heap.objs.size],_,_,H1,rfl,I1.kept (t':=s1.toks) kk,OQ (ne _),Dq,λc hc=>?_,q⟩
 have le:s1.heap.objs.size<=c:=by
  simp only [yL,List.not_mem_nil,wQ] at hc
  rcases hc with q|q<;>rw [q]<;>first|exact ya _|exact Nat.le_add_right _ _
 exact I1.fpOk le (I1.hok.fresh le)
end L2
namespace Mi
open PySem L2 PySem.W PySem.Spec
section
variable {X:Cx}{Er:XK}{fs:Ah}{pos:Pos}
def oH:List PV->Mo (An)
 | [.tup xs],st=>if xs.length<=lim then .ok xs st else .stuck
 | _,_=>.stuck
def Ds {α:Type}{K:Frag}{mg:Ab}{ρ:Ae}{H:Hp}{st:ae}{vs:An}{k:List PV->Mo α}{good:List Addr->Hp->α->ae->Prop}{E:XK}(h:Out K mg ρ H ((oH vs st).bind k) good E):∃xs,vs=[.tup xs]/\xs.length<=lim/\Out K mg ρ H (k xs st) good E:=by
 cases vs with
 | nil=>exact h.elim
 | cons v r =>
  cases r with
  | cons _ _=>cases v<;>exact h.elim
  | nil =>
   cases v with
   | tup xs =>
    by_cases hl:xs.length<=lim
    ·refine ⟨xs,rfl,hl,?_⟩
     have e:oH [.tup xs] st=.ok xs st:=zA hl
     rw [e] at h
     exact h
    ·have e:oH [.tup xs] st=.stuck:=zF hl
     rw [e] at h
     exact h.elim
   | _=>exact h.elim
end
section
variable {X:Cx}{Er:XK}{pos:Pos}{cB:List Stmt}{gb:Aj}{fs:Ah}
def mw:Nat->List PV->An
 | _,[]=>[]
 | i,x::r=>.tup [.int i,x]::mw (i+1) r
def qI (fs:Ah) (g:PV->zc->Option zc) (body:Aj):Aj:=λenv st=>(fs env st).bind λvs aa=>(oH vs aa).bind λxs aa=>forL g body (mw 0 xs) env aa
def zrh {elts:List Expr} {kt:Nat} {tp p ip:Pos} {x:Expr} {gt:PV->zc->Option zc} (hp:PassesOwn (model X.prog X.w) X.A X.env X.xe) (hc:X.calm=true) (hm:X.mg "enumerate" = none) (ha:MA X Er [x] fs) (hg:MG X Er (.Tuple elts kt tp) gt) (hb:dc X Er cB gb)
  (gL:Gl X "enumerate" := by rfl) (a9:starEach [x] X.env=[(false,eval x X.env)]:=by rfl) (hs:∀v,foldedSetIterable (.Call (.Name "enumerate" p) [x] [] ip) X.env v=pure v:=by intro _;rfl) :
  MS X Er (.For (.Tuple elts kt tp) (.Call (.Name "enumerate" p) [x] [] ip) cB [] pos) (qI fs gt gb) :=
 PS.weak (mU hp hc (OW gL hm ha a9) hg hb hs) λD σ H ⟨env,st,ρ,re,rs,h⟩=>⟨env,st,ρ,re,rs,h.then λaq H0 vs cK e0 s0 h0 us ru=>by
  obtain ⟨xs,rfl,m9,h0⟩:=Ds h0
  obtain ⟨v,rfl,rv⟩:=ru.one
  obtain ⟨a,kq,rfl,oI,om⟩:=rv
  refine ⟨a,rfl,⟨_,oI⟩,?_⟩
  refine ⟨λi m σ H=>m+i=lim+1/\i<=xs.length/\∃env st ρ,a8 X.K X.mg ρ H env σ/\a0 X.K X.mg ρ H st/\Ext aq H0 ρ H/\Out X.K X.mg ρ H (forL gt gb (mw i (xs.drop i)) env st) (gS X.K X.mg D) Er,⟨lim+1,rfl,jk _,env,cK,aq,re.ext e0,s0,Ext.refl,h0⟩,?_⟩
  rintro i m σ H ⟨hm,hi,env,st,ρ,re,rs,ex,h⟩
  have hq:=ex.sqT oI
  have hR:=Rs.ext ex _ om
  cases hx:xs[i]? with
  | none =>
   have hl:xs.length<=i:=iX.mp hx
   rw [g9 hl] at h
   exact .inl ⟨⟨kq,hq,by rw [<-hR.len];exact hl⟩,Out.now (x:=Fl.nx env) h rs σ re⟩
  | some x =>
   have a7:i<xs.length:=(yr.mp hx).1
   have OX:xs.drop i=x::xs.drop (i+1):=by
    rw [jK a7]
    congr 1
    exact (yr.mp hx).2
   rw [OX] at h
   obtain ⟨v,hv,rv⟩:=hR.get hx
   have ln:lim=1000000:=rfl
   obtain ⟨m,rfl⟩:∃m',m=m'+1:=⟨m-1,by omega⟩
   refine .inr ⟨⟨kq,v,hq,hv⟩,_,λah H' p'=>⟨m,jP m,p'⟩,λv' H' y=>?_⟩
   obtain ⟨T,x',hT,rfl,rfl,y⟩:=y
   have e2:=y kq hq
   rw [hv] at e2
   cases e2
   have bK:Ext ρ H ρ (upd H T (.tup [.int i,v])):=Ext.new hT
   replace h:Out X.K X.mg ρ H (match gt (.tup [.int i,x]) env with
    | none=>.stuck
    | some bf=>(gb bf st).bind λfl aK=>match fl with
     | .nx e=>forL gt gb (mw (i+1) (xs.drop (i+1))) e aK
     | .ct e=>forL gt gb (mw (i+1) (xs.drop (i+1))) e aK
     | .bk e=>.ok (.nx e) aK
     | .rt v=>.ok (.rt v) aK) (gS X.K X.mg D) Er:=h
   cases hgx:gt (.tup [.int i,x]) env with
   | none=>simp only [hgx] at h;exact h.elim
   | some bf =>
    simp only [hgx] at h
    refine ⟨.tup [.int i,x],env,bf,ρ,⟨T,[.int i,v],rfl,.inl (.inl yC),_,_,rfl,rfl,_,_,rfl,R.ext bK x rv,rfl⟩,re.ext bK,hgx,λaw r1=>⟨bf,st,ρ,r1,rs.new hT,Out.then (Out.ext h bK) λal H3 fl aX e3 s3 h3=>?_⟩⟩
    cases fl with
    | nx e=>exact λay r4=>⟨by omega,by omega,e,aX,al,r4,s3,(ex.trans bK).trans e3,h3⟩
    | ct e=>exact λay r4=>⟨by omega,by omega,e,aX,al,r4,s3,(ex.trans bK).trans e3,h3⟩
    | bk e=>exact Out.fl (D:=D) (fl:=.nx e) (E:=Er) h3 s3
    | rt v=>exact Out.fl (D:=D) (fl:=.rt v) (E:=Er) h3 s3⟩
end
section
variable {X:Cx}
end
end Mi
namespace L2
open PySem PySem.Spec PyProof.Rows PySem.W
section
variable {X:Cx}{e:Expr}{te td ty:TE}{tv:TX}
def OY (z:Str) (te:TE):TE:=fun σ H Q=>te σ H λv H1=>∃i:Int,v=.int i/\i.natAbs.log2<1920/\(z++(toString i:Str)).length<=sizeLine/\Q (.str (z++(toString i:Str))) H1
def qJ (z:Str):Str.empty++z=z:=by
 show Str.mk (#[]++z.cps)=z
 simp
def OZ {z:Str}{ck}{cp fp pos:Pos}(he:PE X e te) (hz:z.length<=sizeLine):PE X (.JoinedStr [.Constant (.str z) ck cp,.FormattedValue e (-1) none fp] pos) (OY z te):=by
 intro pins s σ H Q I h
 refine wpAny_JoinedStr (Calls.Constant_str ⟨z,_,rfl,?_,?_⟩)
 ·rw [qJ];exact hz
 ·refine wpAny_FormattedValue_plain (aS (he pins _ σ H _ (I.tok _) h) λu s1 ⟨v,H1,I1,r1,i,ev,hd,hl,q⟩=>?_)
  subst ev
  obtain ⟨t,rfl⟩:=r1
  refine wpAny_formatField_int hd ⟨_,_,rfl,?_,?_,?_⟩
  ·rw [qJ];exact hl
  ·rw [qJ];exact hl
  ·rw [qJ];exact ⟨.str (z++(toString i:Str)),H1,(I1.tok _).tok _,⟨_,rfl⟩,q⟩
end
end L2
namespace Mi
open PySem L2 PySem.W PySem.Spec
section
variable {X:Cx}{Er:XK}{e o i:Expr}{pos pos' p:Pos}{f fo fi fv:Ai}{k:Nat}{m:Al}
def gQ (z:Str):PV->Mo PV
 | .int i,st=>if i.natAbs.log2<1920/\(z++(toString i:Str)).length<=1000 then .ok (.str (z++(toString i:Str))) st else .stuck
 | _,_=>.stuck
def ziJ {z:Str}{ck}{cp fp:Pos}(he:ME X Er e f) (hz:z.length<=1000:=by decide):ME X Er (.JoinedStr [.Constant (.str z) ck cp,.FormattedValue e (-1) none fp] pos) (yz (gQ z) f) :=
 PE.weak (OZ he (y8 hz (by decide))) fun σ H Q ⟨env,st,ρ,re,rs,h⟩=>⟨env,st,ρ,re,rs,h.then λag H1 x aa e1 s1 h1 v rv=>by
  cases x with
  | int i =>
   obtain ⟨⟨h2,h3⟩,h1⟩:=Out.ifp h1
   exact ⟨i,rv,h2,y8 h3 (by decide),h1.now s1 _ rfl⟩
  | _=>exact h1.elim⟩
end
section
variable {X:Cx}{Er:XK}{pos:Pos}{fs:Ah}
end
end Mi
namespace PySem
open Sem (wp)
section
variable {prog:Program}{w:World}{A:Around}{E:Aa}{s:Shared}
variable {I:Addr}{fp wr:Ae}{G:Array GenState->Array GenState->Prop}{n:Nat}{P:Nat->Value->Prop}{St:Nat->Shared->Prop}
def O0 {Q:List Value->Shared->Prop} (W:WalksS prog w A.in1 I fp wr G n P St) (hT:∀i s,St i s->s.TypeIs (.ref I) "list_reverseiterator") (a9:St 0 s) (kO:∀b∈fp,b<s.heap.objs.size) (hI:I∈fp)
  (hQ:∀s' acc,Moved wr G s s'->ItemsOf P acc n->s.heap.objs.size<s'.heap.objs.size->Q acc.toList s') (hn:n<=sizeLine:=by size_fits):wpAny (model prog w) A (collect (.ref I)) Q E s:=by
 have gP:s.heap.objs.size∉fp:=λhm=>Nat.lt_irrefl _ (kO _ hm)
 unfold collect
 refine zl (wpAny_runValue (codeAny_builtin F.entry_proto_collect ?_))
 rw [Around.under_plainId F.plain_proto_collect _]
 show wpAny _ A.in1 (newList [] >>= λl=>again (.builtin "list.__iadd__" ⟨[l,.ref I],[]⟩)) _ _ s
 refine zl (jN ?_)
 refine zG ⟨plainId_quiet F.plain_list_iadd _,codeAny_builtin F.entry_list_iadd ?_⟩
 rw [Around.under_plainId F.plain_list_iadd _]
 have aP:=W.frame 0 s (s.heap.push { cls:=.type "list", data:=.seq ([]:Af).toArray }) s.toks a9 (ya _) λb _ o e=>z9 _ e
 show wpAny _ A.in1 (Builtin.List.listExtendWith (.ref s.heap.objs.size) (.ref I) (.ref s.heap.objs.size)) _ _ _
 refine Lr.extend (R:=λr s'=>match r with
  | .ok (.ret v)=>wpAny (model prog w) A (match v with
   | .ref a=>do
    let o <-load a
    match o.data with
    | .seq xs _=>pure xs.toList
    | _=>unsupported "internal:collect"
   | _=>unsupported "internal:collect") Q E s'
  | .ok _=>False
  | .error e=>E e s') (hn:=hn) W hT s.heap.objs.size _ _ aP gP hI (yB _ rfl) λs' bu c' hm iB cv=>?_
 show wpAny _ A (load s.heap.objs.size >>= _) _ _ s'
 refine zl (wpAny_load iB ?_)
 exact zG (hQ s' bu (Moved.drop_new (o:={ cls:=.type "list", data:=.seq ([]:Af).toArray }) (tk:=s.toks) hm (ya _)) cv (yh iB))
def O1 {Q₁:Aa} (W:WalksS prog w A.in1.in1 I fp wr G n P St) (hT:∀i s,St i s->s.TypeIs (.ref I) "list_reverseiterator") (a9:St 0 s) (kO:∀b∈fp,b<s.heap.objs.size) (hI:I∈fp)
  (h:∀s' acc,Moved wr G s s'->ItemsOf P acc n->s.heap.objs.size<s'.heap.objs.size->Q₁ (.ref s'.heap.objs.size) { s' with heap:=s'.heap.push { cls:=.type "tuple", data:=.seq acc } }) (hsz:n<=sizeLine:=by size_fits) :
  codeAny (model prog w) A (.call (.builtin "tuple.__new__") ⟨[.type "tuple", .ref I],[]⟩) (wants Q₁ E) s:=by
 refine codeAny_of_tree ?_
 show wpAny _ A.in1 (do checkBuiltinCall "tuple.__new__" ⟨[.type "tuple", .ref I],[]⟩;again (.builtin "tuple.__new__" ⟨[.type "tuple", .ref I],[]⟩)) _ _ s
 refine zl (wpAny_of_eq (F.newCall_tuple_1 _) (zG ⟨plainId_quiet F.plain_tuple_new _,codeAny_builtin F.entry_tuple_new ?_⟩))
 rw [Around.under_plainId F.plain_tuple_new _]
 have rK:=sub_tuple_self
 have O2:=init_tuple_lookup
 have Wx:=madeHere_tuple
 have d4:=hT 0 s a9
 wp_walk using wpAny_typeOf d4,O0 (hn:=hsz) W hT a9 kO hI
 intro s' acc hm cv a7
 show wpAny _ _ (Builtin.Tuple.tupleExact acc.toList.toArray >>= λv=>ret v) _ _ _
 unfold Builtin.Tuple.tupleExact
 refine zl (jN ?_ (by show acc.toList.toArray.size<=sizeLine;simp only [Array.toArray_toList];rw [cv.1];exact hsz))
 refine zG ?_
 have e:acc.toList.toArray=acc:=by simp
 rw [e]
 exact h s' acc hm cv a7
def O3 {Q:Aa} (W:WalksS prog w A.in1.in1.in1 I fp wr G n P St) (hT:∀i s,St i s->s.TypeIs (.ref I) "list_reverseiterator") (a9:St 0 s) (kO:∀b∈fp,b<s.heap.objs.size) (hI:I∈fp)
  (hQ:∀s' acc,Moved wr G s s'->ItemsOf P acc n->s.heap.objs.size<s'.heap.objs.size->Q (.ref s'.heap.objs.size) { s' with heap:=s'.heap.push { cls:=.type "tuple", data:=.seq acc } }) (hsz:n<=sizeLine:=by size_fits) :
  wpAny (model prog w) A (call (.type "tuple") [.ref I]) Q E s:=by
 refine callType_codes (Q₁:=λobj ak=>ak.TypeIs obj "tuple" /\ Q obj ak) F.called_tuple (F.typeCall_tuple_1 _) F.entry_object_init
  (O1 (hsz:=hsz) W hT a9 kO hI λs' acc hm cv a7=>⟨⟨_,yB _ rfl,rfl⟩,hQ s' acc hm cv a7⟩) λobj ak au=>?_
 exact ⟨au.1,F.args_object_init_2 obj _,object_init_meets F.called_tuple.init.lookup F.called_tuple.made (by decide) prog w A.in1 _ ak ⟨au.1,rfl,au.2⟩⟩
end
end PySem
namespace L2
open PySem PySem.Spec PyProof.Rows PySem.W
section
variable {X:Cx}
def O4 {a:Expr} {ta:TA} {p p2 pos eM:Pos} (hc:X.calm=true) (hg:Gl X "reversed") (hm:X.mg "reversed" = none) (gL:Gl X "tuple") (uS:X.mg "tuple" = none) (uT:bootBuiltins "tuple" = some (.type "tuple")) (ha:PA X [a] ta) (hs:starEach [a] X.env=[(false,eval a X.env)]:=by rfl)
  (dW:starEach [Expr.Call (.Name "reversed" p2) [a] [] eM] X.env=[(false,eval (Expr.Call (.Name "reversed" p2) [a] [] eM) X.env)]:=by rfl) :
  PE X (.Call (.Name "tuple" p) [.Call (.Name "reversed" p2) [a] [] eM] [] pos) (fun σ H Q=>ta σ H λvs H1=>∃a xs,vs=[.ref a]/\a4 X.K H1 a xs/\∀l,H1 l=none->Q (.ref l) (upd H1 l (.tup xs.reverse))):=by
 intro pins s σ H Q I h
 refine wpAny_Call_Name_kw (wH I gL uS uT ?_ (by decide) (by decide))
 refine PyProof.Rows.callWith_type1 ?_ dW rfl
 rw [dW]
 show wpAny _ _ (spliced ((false,eval (Expr.Call (.Name "reversed" p2) [a] [] eM) X.env)::[])) _ _ s
 refine Calls.spliced_cons ?_
 refine wpAny_Call_Name_kw (wH I hg hm CY (PyProof.Rows.callWith_type1 (aS (ha eM pins s σ H _ I h) λus s1 ⟨vs,H1,I1,r1,q1⟩=>?_) hs rfl) (by decide) (by decide))
 obtain ⟨a,xs,e,hq,q⟩:=q1
 subst e
 obtain ⟨u,rfl,ru⟩:=r1.one
 obtain rfl:u=Value.ref a:=ru
 obtain ⟨its,rv,p1,hz⟩:=I1.list hq
 have hl:=rv.length
 refine call_reversed_list p1.isList (Calls.spliced_nil ?_)
 have a7:a<s1.heap.objs.size:=by obtain ⟨o,e,_⟩:=p1.isList;exact yh e
 have km:a≠s1.heap.objs.size:=yD a7
 have W:=(Walks.listRev (prog:=X.prog) (w:=X.w) (A:=X.A.in1.in1.in1) (I1.ok.hd hc) s1.heap.objs.size a km its.toArray).toS
 have st:(s1.heap.push (revObj a ((its.toArray.size:Int)-1))).IsRevIter s1.heap.objs.size a ((its.toArray.size:Int)-1-((0:Nat):Int)):=⟨_,yB _ rfl,rfl,by simp [revObj]⟩
 have hsz:(s1.heap.push (revObj a ((its.toArray.size:Int)-1))).objs.size=s1.heap.objs.size+1:=by simp [Heap.push]
 refine O3 W (λi s st=>st.2.1.typeIs) ⟨jk _,st,p1.isList.at λo e=>z9 _ e⟩ (λb hb=>?_) (by simp) (λs' bu mv hit O5=>?_) (by simp;omega)
 ·simp at hb
  show b<(s1.heap.push (revObj a ((its.toArray.size:Int)-1))).objs.size
  rw [hsz]
  rcases hb with hb|hb
  ·rw [hb];exact jP _
  ·rw [hb];exact Nat.lt_succ_of_lt a7
 ·have es:=Moved.eq_with mv
  have kp:∀b u,s1.heap.get? b=some u->s'.heap.get? b=some u:=λb u e=>by
   have lb:=yh e
   refine mv.heap b u (λhm=>?_) (z9 _ e)
   have:b=s1.heap.objs.size:=by simpa using hm
   rw [this] at lb
   exact absurd lb (Nat.lt_irrefl _)
  have hle:s1.heap.objs.size<=s'.heap.objs.size:=by
   have:s1.heap.objs.size+1<s'.heap.objs.size:=by rw [<-hsz];exact O5
   exact Nat.le_of_lt (Nat.lt_of_succ_lt this)
  have O6:Vals xs.reverse bu.toList:=by
   refine C9 (by simp [hit.1,hl]) λi x u h1 h2=>?_
   have h3:bu[i]?=some u:=by simpa using h2
   have h4:=hit.2 i u h3
   have hi:i<its.length:=by
    have:=(Array.getElem?_eq_some_iff.mp h3).1
    rw [hit.1] at this
    simpa using this
   rw [List.getElem?_reverse (by omega)] at h1
   obtain ⟨u',g1,g2⟩:=rv.get h1
   have:its[its.length-1-i]?=some u:=by simpa using h4
   rw [hl,this] at g1
   cases g1
   exact g2
  rw [es]
  refine ⟨.ref _,_,I1.laid (h':=s'.heap.push { cls:=.type "tuple", data:=.seq bu }) (t':=s'.toks) (λb u e=>z9 _ (kp b u e)) hle (show aZ X.prog X.w _ _ _ (.tup xs.reverse) from ⟨by simpa using hz,bu.toList,O6,?_⟩),rfl,q _ (I1.hok.fresh hle)⟩
  have ea:bu.toList.toArray=bu:=by simp
  rw [ea]
  exact ⟨_,yB _ rfl,rfl,_,rfl⟩
end
end L2
namespace Mi
open PySem L2 PySem.W PySem.Spec
section
variable {X:Cx}{Er:XK}{pos aV apos:Pos}{fs:Ah}{o e f:Expr}{fo fk fx:Ai}
def oJ (vs:An):Mo PV:=λst=>(kI vs st).bind λn st=>yp st n λxs=>.ok (.tup xs.reverse) st
def qK (fs:Ah):Ai:=λenv st=>(fs env st).bind oJ
def O7 {a:Expr} {p p2 eM:Pos} (hc:X.calm=true) (hm:X.mg "reversed" = none) (uS:X.mg "tuple" = none) (uT:bootBuiltins "tuple" = some (.type "tuple")) (ha:MA X Er [a] fs) (hg:Gl X "reversed" := by rfl) (gL:Gl X "tuple" := by rfl) (hs:starEach [a] X.env=[(false,eval a X.env)]:=by rfl)
  (dW:starEach [Expr.Call (.Name "reversed" p2) [a] [] eM] X.env=[(false,eval (Expr.Call (.Name "reversed" p2) [a] [] eM) X.env)]:=by rfl) :
  ME X Er (.Call (.Name "tuple" p) [.Call (.Name "reversed" p2) [a] [] eM] [] pos) (qK fs) :=
 PE.weak (O4 hc hg hm gL uS uT ha hs dW) fun σ H Q ⟨env,st,ρ,re,rs,h⟩=>⟨env,st,ρ,re,rs,h.then λag H1 xs aa e1 s1 h1 vs rv=>by
  obtain ⟨n,ys,rfl,hn,h1⟩:=uz h1
  obtain ⟨cx,iZ,h1⟩:=jm h1
  obtain ⟨v,rfl,nL⟩:=rv.one
  obtain ⟨a,rfl,O8⟩:=nL
  obtain ⟨ws,hH,hR⟩:=s1.addr iZ O8
  exact ⟨a,ws,rfl,a4.of hH,λl hl=>h1 ag _ (Ext.new hl) (s1.new hl) (.ref l) ⟨l,ws.reverse,rfl,.inl (.inl yC),Rs.ext (Ext.new hl) _ (Rs.rev hR)⟩⟩⟩
def O9 {n:Nat}{st:ae}{xs:An}(h:st[n]?=some (.lst xs)):oJ [.ref n] st=.ok (.tup xs.reverse) st:=by
 simp [oJ,yA h]
def O_ (n:Nat) (z d:PV):Mo PV:=λst=>match z with
 | .str z=>y9 st n λks xs=>.ok (((ks.zip xs).lookup z).getD d) st
 | _=>.stuck
def mx (fo fk fx:Ai):Ai:=λenv st=>(fo env st).bind λv aa=>qA v aa λn _ _=>(fk env aa).bind λz aK=>(fx env aK).bind λd aX=>O_ n z d aX
def Dt (hu:X.A.units+200<cLine) (ho:ME X Er o fo) (he:ME X Er e fk) (hf:ME X Er f fx) (bX:attributeBase o "get" X.env (eval o X.env)=eval o X.env:=by rfl)
  (eh:((backTo aV (starEach [e,f] X.env)).all (λx=>!x.1)&&(backToKw aV (keywordEach [] X.env)).all (λx=>x.1.isSome)&&decide (([e,f]:List Expr).length+([]:List Keyword).length+(if ([]:List Keyword).isEmpty then 0 else 1)<30))=true:=by rfl)
  (c7:(apos.endLine==aV.line)=true:=by rfl) (ht:backTo aV (starEach [e,f] X.env)=[(false,eval e X.env),(false,eval f X.env)]:=by rfl):ME X Er (.Call (.Attribute o "get" apos) [e,f] [] aV) (mx fo fk fx) :=
 PE.weak (JP (by omega) ho he hf ⟨bX,eh,c7,ht⟩) fun σ H Q ⟨env,st,ρ,re,rs,h⟩=>⟨env,st,ρ,re,rs,h.then λag H1 x aa e1 s1 h1 v rv=>by
  obtain ⟨n,ks,xs,rfl,hn,h1⟩:=C0 h1
  obtain ⟨a,vs,rfl,ha,k1,k2,k3⟩:=R.refD s1 rv hn
  refine ⟨a,rfl,.inl ⟨_,.inl k1⟩,env,aa,ag,re.ext e1,s1,h1.then λao H2 z aK e2 s2 h2 w rw'=>⟨env,aK,ao,(re.ext e1).ext e2,s2,h2.then λal H3 d aX e3 s3 h3 dv rd=>?_⟩⟩
  cases z with
  | str z =>
   cases rw'
   obtain ⟨Pa,l8,du,h3⟩:=tO (show Out X.K X.mg al H3 (y9 aX n λks xs=>.ok (((ks.zip xs).lookup z).getD d) aX) (gV X.K X.mg Q) Er from h3)
   obtain ⟨gE,q1,q2,q3⟩:=s3.addr du (e3.get (e2.get ha))
   refine ⟨_,uv q1,?_⟩
   cases hq:(Pa.zip l8).lookup z with
   | none =>
    rw [hq] at h3
    rw [Oq q2.len q3 hq]
    exact Out.now (x:=d) h3 s3 _ rd
   | some y =>
    rw [hq] at h3
    obtain ⟨v,hv,rv⟩:=iq q2 hq
    rw [hv]
    exact Out.now (x:=y) h3 s3 _ rv
  | _=>exact h3.elim⟩
end
end Mi
namespace PySem
namespace Rt
def owner:Manifest.owners.lookup (String.ofList ['d','e','s','r','e','v','e','r'].reverse)=some Manifest.sig_reversed:=by kernel_rfl
def s_next:Slot "reversed" "__next__" "reversed.__next__" :=
 .of (owner := "reversed") (n := "__next__") (by rw [typeLookup_type,builtinLookup_eq_fast];kernel_rfl) (by decide +kernel) (by decide +kernel) (by decide +kernel)
  (by first|exact .inl (by decide +kernel)|exact .inr (by decide +kernel)) (by rw [isSubtype_type];kernel_rfl)
def e_next:entryFor table "reversed.__next__" = some Builtin.«reversed.__next__» := entryFor_of_tree (by kernel_rfl)
def a_next (a:Value):argsOk "reversed.__next__" ⟨[a],[]⟩:=by
 unfold argsOk;rw [signature?_of (id := "reversed.__next__") (n:=['_','_','t','x','e','n','_','_']) (o:=['d','e','s','r','e','v','e','r']) (by kernel_rfl) owner];kernel_rfl
def s_iter:Slot "reversed" "__iter__" "reversed.__iter__" :=
 .of (owner := "reversed") (n := "__iter__") (by rw [typeLookup_type,builtinLookup_eq_fast];kernel_rfl) (by decide +kernel) (by decide +kernel) (by decide +kernel)
  (by first|exact .inl (by decide +kernel)|exact .inr (by decide +kernel)) (by rw [isSubtype_type];kernel_rfl)
def a_iter (a:Value):argsOk "reversed.__iter__" ⟨[a],[]⟩:=by
 unfold argsOk;rw [signature?_of (id := "reversed.__iter__") (n:=['_','_','r','e','t','i','_','_']) (o:=['d','e','s','r','e','v','e','r']) (by kernel_rfl) owner];kernel_rfl
def e_iter:entryFor table "reversed.__iter__" = some Builtin.«dict_keyiterator.__iter__» :=
 entryFor_alias (id' := "dict_keyiterator.__iter__") (by kernel_rfl) (by first|rfl|decide +kernel|(unfold String.splitOn;simp +decide [String.splitOnAux])) (by decide +kernel) (by kernel_rfl)
def Pb:Slot "reversed" "__init__" "object.__init__" :=
 .of (owner := "object") (n := "__init__") (by rw [typeLookup_type,builtinLookup_eq_fast];kernel_rfl) (by decide +kernel) (by decide +kernel) (by decide +kernel)
  (by first|exact .inl (by decide +kernel)|exact .inr (by decide +kernel)) (by rw [isSubtype_type];kernel_rfl)
def called:TypeCalled "reversed" "reversed.__new__" "object.__init__" :=
 ⟨by decide +kernel,by decide +kernel,⟨_,_,F.mro_reversed⟩,F.made_reversed,by decide +kernel,by rw [isSubtype_type];kernel_rfl,Pb⟩
def no_rev:typeLookup (.type "tuple") "__reversed__" = pure none:=by rw [typeLookup_type,builtinLookup_eq_fast];kernel_rfl
def no_dict:isSubtype (.type "tuple") (.type "dict")=pure false:=by rw [isSubtype_type];kernel_rfl
end Rt
def iD (l:Addr) (i:Int):Obj:={ cls:=.type "reversed", data:=.fields #[.ref l,rawInt i] }
def Heap.IsRevT (h:Heap) (a l:Addr) (i:Int):Prop:=∃o,h.get? a=some o/\o.cls=.type "reversed" /\ o.data=.fields #[.ref l,rawInt i]
section
open PyProof.Rows
variable {prog:Program}{w:World}{A:Around}{E:Aa}{s:Shared}
def Heap.IsRevT.typeIs {a l:Addr} {i:Int} (x:s.heap.IsRevT a l i):s.TypeIs (.ref a) "reversed" := let ⟨o,ho,hc,_⟩:=x;⟨o,ho,hc⟩
def Heap.IsRevT.at {h h':Heap}{a l:Addr}{i:Int}(x:h.IsRevT a l i) (e:∀o,h.get? a=some o->h'.get? a=some o):h'.IsRevT a l i:=let ⟨o,ho,r⟩:=x;⟨o,e _ ho,r⟩
def Pc {t:Addr}{items:Array Value}{Q₁:Aa}(ht:IsTup s.heap t items) (oK:(items.size:Int)<2 ^ 63)
  (h:Q₁ (.ref s.heap.objs.size) { s with heap:=s.heap.push (iD t ((items.size:Int)-1)),toks:=s.toks+1+1 }) :
  codeAny (model prog w) A (.call (.builtin "reversed.__new__") ⟨[.type "reversed", .ref t],[]⟩) (wants Q₁ E) s:=by
 refine codeAny_of_tree ?_
 show wpAny _ A.in1 (do checkBuiltinCall "reversed.__new__" ⟨[.type "reversed", .ref t],[]⟩;again (.builtin "reversed.__new__" ⟨[.type "reversed", .ref t],[]⟩)) _ _ s
 refine zl (wpAny_of_eq (F.newCall_reversed_1 _) (zG ⟨plainId_quiet F.plain_reversed_new _,codeAny_builtin F.entry_reversed_new ?_⟩))
 rw [Around.under_plainId F.plain_reversed_new _]
 unfold Builtin.«reversed.__new__»
 refine zl (wpAny_of_eq (newClass_reversed _) ?_)
 try dsimp only
 refine zl (wpAny_of_eq (a:=()) (by first|rfl|kernel_rfl) ?_)
 refine zl (wpAny_of_eq (a:=()) (by first|rfl|kernel_rfl) ?_)
 try dsimp only
 refine zl (wpAny_specialOf ht.typeIs Rt.no_rev ?_)
 try dsimp only
 refine zl ?_
 wp_delta
 refine zl (wpAny_isInstance (b:=false) ht.typeIs Rt.no_dict ?_)
 rw [zF (by decide)]
 refine zl (wpAny_specialOf ht.typeIs PyProof.Rows.slot_tuple_getitem.lookup ?_)
 dsimp only
 rw [zA (by decide)]
 refine zG ?_
 rw [zF (by decide)]
 refine zl (PyProof.Rows.len_tuple ht oK ?_)
 refine zl (wpAny_of_eq (a:=some (items.size:Int)) (by rfl) ?_)
 dsimp only
 refine zl ?_
 show wpAny _ _ (newObj (.type "reversed") (.fields #[.ref t,rawInt ((items.size:Int)-1)])) _ _ _
 exact jN (zG h)
def Pd {t:Addr}{items:Array Value}{Q:Aa}(ht:IsTup s.heap t items) (oK:(items.size:Int)<2 ^ 63)
  (h:Q (.ref s.heap.objs.size) { s with heap:=s.heap.push (iD t ((items.size:Int)-1)),toks:=s.toks+1+1 }):wpAny (model prog w) A (call (.type "reversed") [.ref t]) Q E s:=by
 refine callType_codes (Q₁:=λobj ak=>ak.TypeIs obj "reversed" /\ Q obj ak) Rt.called (F.typeCall_reversed_1 _) F.entry_object_init (Pc ht oK ⟨⟨_,yB _ rfl,rfl⟩,h⟩) λobj ak au=>?_
 exact ⟨au.1,F.args_object_init_2 obj _,object_init_meets Rt.called.init.lookup Rt.called.made (by decide) prog w A.in1 _ ak ⟨au.1,rfl,au.2⟩⟩
def Pe {it t:Addr}{i:Nat}{items:Array Value}{x:Value}{Q:Option Value->Shared->Prop}(hit:s.heap.IsRevT it t (i:Int)) (ht:IsTup s.heap t items) (hx:items[i]?=some x) (hi:(i:Int)<2 ^ 62)
  (hQ:∀h',h'.IsRevT it t ((i:Int)-1)->Heap.SameBut it s.heap h'->∀tk,Q (some x) { s with heap:=h',toks:=tk }):wpAny (model prog w) A (pyNext (.ref it)) Q E s:=by
 obtain ⟨o,ho,hc,hd⟩:=id hit
 unfold pyNext
 refine zl (wpAny_attempt (wpAny_callSpecial?_slot (name:=Str.ofString "__next__") hit.typeIs Rt.s_next (jJ Rt.s_next hit.typeIs Rt.e_next ?_ (Rt.a_next _))))
 unfold Builtin.«reversed.__next__»
 refine zl (wpAny_of_eq (a:=(Value.ref it,[])) rfl ?_)
 try dsimp only
 refine zl (yQ ho hd (x:=.ref t) rfl ?_)
 refine zl (yQ ho hd (x:=rawInt (i:Int)) rfl ?_)
 show wpAny _ _ (if (i:Int)<0 then _ else _) _ _ s
 rw [zF (by omega)]
 refine zl (wpAny_specialOf ht.typeIs PyProof.Rows.slot_tuple_getitem.lookup ?_)
 rw [zF (by decide)]
 refine zl (wpAny_mkInt ?_)
 have a7:i<items.size:=(Array.getElem?_eq_some_iff.mp hx).1
 have hj:seqIndex? (i:Int) items.size=some i:=by
  unfold seqIndex?
  have n0:¬((i:Int)<0):=by omega
  simp only [zF n0]
  simp
  exact a7
 refine zl (wpAny_attempt (PyProof.Rows.getItem_tuple (s:={ s with toks:=s.toks+1 }) ht (by omega) (by omega) hj hx ?_))
 dsimp only
 refine zl (yQ ho hd (x:=rawInt (i:Int)) rfl ?_)
 show wpAny _ _ (setField (.ref it) 1 (rawInt ((i:Int)-1)) >>= _) _ _ _
 refine zl (wpAny_setField ho hd (by simp) ?_)
 refine zG ⟨x,rfl,zG (hQ _ ?_ (Heap.SameBut.update ..) _)⟩
 exact ⟨_,Heap.get?_update_self _ ho (Obj.isFreed_of_fields (Obj.data_mapFields hd _)),(Obj.cls_mapFields ..).trans hc,by
  rw [Obj.data_mapFields hd];simp⟩
def Pf {it t:Addr}{Q:Option Value->Shared->Prop}(hh:A.handled=none) (hit:s.heap.IsRevT it t (-1))
  (hQ:∀h',Heap.ExtBut it s.heap h'->Q none { s with heap:=h' }):wpAny (model prog w) A (pyNext (.ref it)) Q E s:=by
 obtain ⟨o,ho,hc,hd⟩:=id hit
 unfold pyNext
 refine zl (wpAny_attempt (wpAny_callSpecial?_slot (name:=Str.ofString "__next__") hit.typeIs Rt.s_next (jJ Rt.s_next hit.typeIs Rt.e_next ?_ (Rt.a_next _))))
 unfold Builtin.«reversed.__next__»
 refine zl (wpAny_of_eq (a:=(Value.ref it,[])) rfl ?_)
 try dsimp only
 refine zl (yQ ho hd (x:=.ref t) rfl ?_)
 refine zl (yQ ho hd (x:=rawInt (-1)) rfl ?_)
 show wpAny _ _ (if (-1:Int)<0 then _ else _) _ _ s
 rw [zA (by decide)]
 refine zl (iU ?_)
 refine zl ?_
 wp_delta
 refine zl (wpAny_setField ho hd (by simp) ?_)
 have Pg:=Heap.get?_update_self (h:=s.heap) (a:=it) (Obj.mapFields λa=>a.set! 1 (rawInt (-1))) ho (Obj.isFreed_of_fields (Obj.data_mapFields hd _))
 refine wpAny_setField Pg (Obj.data_mapFields hd _) (by simp) ?_
 refine zl ?_
 show wpAny _ _ (newExc (.type "StopIteration") [] >>= _) _ _ _
 refine zl ?_
 simp only [newExc,newTuple]
 refine zl (jN ?_ (by size_fits))
 refine zl (m:=firstArgMember _ _) (wpAny_of_eq (a:=Value.none) (by first|rfl|(simp only [firstArgMember];rfl)) ?_)
 refine jN ?_ (by size_fits)
 simp only [raiseNew]
 refine zl (wpAny_handled ?_)
 first|rw [show A.in1.handled=none from hh]|rw [hh]
 refine zl (zG (wpAny_throw ?_))
 refine zl (wpAny_isInstance (T := "StopIteration") (b:=true) ⟨_,yB _ rfl,rfl⟩ isSubtype_stop ?_)
 exact zG (hQ _ λb u hb e=>z9 _ (z9 _ ((jO _ _ (yw hb)).trans ((jO _ _ (yw hb)).trans e))))
def Du {it t:Addr}{i:Int}{Q:Aa}(hit:s.heap.IsRevT it t i) (h:Q (.ref it) s):wpAny (model prog w) A (pyIter (.ref it)) Q E s:=by
 refine wpAny_pyIter_slot hit.typeIs Rt.s_iter (jJ Rt.s_iter hit.typeIs Rt.e_iter ?_ (Rt.a_iter _))
 show wpAny _ _ (ret (.ref it)) _ _ s
 exact zG ⟨_,rfl,"reversed", _,hit.typeIs,Rt.s_next.lookup,h⟩
end
end PySem
namespace L2
open PySem PySem.Spec PyProof.Rows PySem.W
def rT (K:Frag) (a:Addr) (xs:List V):It :=
 ⟨λi H=>i<xs.length/\ba K H a xs,λi H x H'=>H'=H/\xs[xs.length-1-i]?=some x,λi H=>i=xs.length⟩
def Ph {P:Program}{w:World}{K:Frag}{tg:Expr}(a it:Addr) (xs:List V):Turn P w K tg (rT K a xs) [it] it (λi h=>h.IsRevT it a ((xs.length:Int)-1-(i:Nat))) where
 mem:=by simp
 obj:=λi h st b hb=>by
  have e:b=it:=by simpa using hb
  subst e
  obtain ⟨o,e,c,d⟩:=st
  exact ⟨o,e,λv z=>by rw [d] at z;cases z⟩
 keep:=λi h h' st k=>st.at λo e=>k it (by simp) o e
 item:=by
  intro X hP hw hK hc i pins s σ H E I hf st hg
  subst hP hw hK
  obtain ⟨hi,hq⟩:=hg
  obtain ⟨its,rv,p,hz⟩:=I.tuple hq
  have a7:xs.length-1-i<xs.length:=by omega
  have hx:xs[xs.length-1-i]?=some (xs[xs.length-1-i]'a7):=yu a7
  obtain ⟨u,hu,ru⟩:=rv.get hx
  obtain ⟨f0,f1,f2,f3,f4,f5⟩:=hf it (by simp)
  have e:(xs.length:Int)-1-(i:Nat)=((xs.length-1-i:Nat):Int):=by omega
  rw [e] at st
  have sl:sizeLine<2 ^ 62:=by decide
  refine Pe st p (x:=u) (by simpa using hu) (by omega) λh' bh sb tk=>?_
  have I1:Inv X pins σ H { s with heap:=h',toks:=tk }:=I.turned (t':=tk) (λb o hb e=>(sb.2 b hb).trans e) f0 f1 f3 f4 f5
  obtain ⟨o,e1,c,d⟩:=id bh
  have e2:((xs.length-1-i:Nat):Int)-1=(xs.length:Int)-1-((i+1:Nat):Int):=by omega
  rw [e2] at bh
  exact ⟨u,rfl,lJ (s:={ s with heap:=h',toks:=tk }) e1 c d (by decide) ⟨_,H,I1,ru,⟨rfl,hx⟩,bh,λb hb=>(hf b hb).1⟩⟩
 done:=by
  intro X hP hw hK hc i pins s σ H E I hf st hg
  subst hP hw hK
  have hg:i=xs.length:=hg
  obtain ⟨f0,f1,f2,f3,f4,f5⟩:=hf it (by simp)
  rw [show (xs.length:Int)-1-(i:Nat) = -1 by omega] at st
  exact Pf (I.ok.hd hc) st λh' eb=>⟨rfl,I.turned (t':=s.toks) (λb o hb e=>eb b o hb e) f0 f1 f3 f4 f5⟩
 self:=λ_ _ _ _ _ st h=>Du st h
def Pj (K:Frag) (ta:TA):TI:=fun σ H R=>ta σ H λvs H1=>∃a xs,vs=[.ref a]/\ba K H1 a xs/\R (rT K a xs) H1
def Pk {X:Cx} {tg x:Expr} {ta:TA} {p pos:Pos} (hg:Gl X "reversed") (hm:X.mg "reversed" = none) (ha:PA X [x] ta) (hs:starEach [x] X.env=[(false,eval x X.env)]:=by rfl) :
  PI X tg (.Call (.Name "reversed" p) [x] [] pos) (Pj X.K ta):=by
 intro pins s σ H R I h
 refine Call_ (wH I hg hm CY (PyProof.Rows.callWith_type1 (aS (ha pos pins s σ H _ I h) λus s1 ⟨vs,H1,I1,r1,q1⟩=>?_) hs rfl))
 obtain ⟨a,xs,e,hq,q⟩:=q1
 subst e
 obtain ⟨u,rfl,ru⟩:=r1.one
 obtain rfl:u=Value.ref a:=ru
 obtain ⟨its,rv,p1,hz⟩:=I1.tuple hq
 have hl:=rv.length
 have sl:sizeLine<2 ^ 62:=by decide
 have st:(s1.heap.push (iD a ((its.toArray.size:Int)-1))).IsRevT s1.heap.objs.size a ((xs.length:Int)-1-((0:Nat):Int)):=⟨_,yB _ rfl,rfl,by simp [iD,hl]⟩
 refine Pd p1 (by simp;omega) (Du (s:={ s1 with heap:=s1.heap.push (iD a ((its.toArray.size:Int)-1)),toks:=s1.toks+1+1 }) st ?_)
 refine ⟨s1.heap.objs.size,[s1.heap.objs.size],_,_,H1,rfl,I1.kept (t':=s1.toks+1+1) (λb o e=>z9 _ e),Ph a _ xs,st,λb hb=>?_,q⟩
 have e:b=s1.heap.objs.size:=by simpa using hb
 subst e
 exact I1.fpOk (ya _) (I1.hok.fresh (ya _))
end L2
namespace Mi
open PySem L2 PySem.W PySem.Spec
section
variable {X:Cx}{Er:XK}{pos:Pos}{fs:Ah}{gb:Aj}{cB:List Stmt}
def qL (fs:Ah) (g:PV->zc->Option zc) (body:Aj):Aj:=λenv st=>(fs env st).bind λvs aa=>(oH vs aa).bind λxs aa=>forL g body xs.reverse env aa
def Pl {tg:Expr} {p ip:Pos} {x:Expr} {gt:PV->zc->Option zc} (hp:PassesOwn (model X.prog X.w) X.A X.env X.xe) (hc:X.calm=true) (hm:X.mg "reversed" = none) (ha:MA X Er [x] fs) (hg:MG X Er tg gt) (hb:dc X Er cB gb)
  (gL:Gl X "reversed" := by rfl) (a9:starEach [x] X.env=[(false,eval x X.env)]:=by rfl) (hs:∀v,foldedSetIterable (.Call (.Name "reversed" p) [x] [] ip) X.env v=pure v:=by intro _;rfl) :
  MS X Er (.For tg (.Call (.Name "reversed" p) [x] [] ip) cB [] pos) (qL fs gt gb) :=
 PS.weak (mU hp hc (Pk gL hm ha a9) hg hb hs) λD σ H ⟨env,st,ρ,re,rs,h⟩=>⟨env,st,ρ,re,rs,h.then λaq H0 vs cK e0 s0 h0 us ru=>by
  obtain ⟨xs,rfl,m9,h0⟩:=Ds h0
  obtain ⟨v,rfl,rv⟩:=ru.one
  obtain ⟨a,kq,rfl,oI,om⟩:=rv
  have hl:=om.len
  refine ⟨a,kq,rfl,oI,?_⟩
  refine ⟨λi m σ H=>m+i=xs.length/\∃env st ρ,a8 X.K X.mg ρ H env σ/\a0 X.K X.mg ρ H st/\Ext aq H0 ρ H/\Out X.K X.mg ρ H (forL gt gb (xs.reverse.drop i) env st) (gS X.K X.mg D) Er,⟨xs.length,rfl,env,cK,aq,re.ext e0,s0,Ext.refl,h0⟩,?_⟩
  rintro i m σ H ⟨hm,env,st,ρ,re,rs,ex,h⟩
  by_cases hi:i<xs.length
  ·have hr:i<xs.reverse.length:=by simpa using hi
   have hx:xs.reverse[i]?=some (xs.reverse[i]'hr):=yu hr
   rw [jK hr] at h
   generalize xs.reverse[i]'hr=x at h hx
   have lZ:xs[xs.length-1-i]?=some x:=by rw [<-List.getElem?_reverse hi];exact hx
   refine .inr ⟨⟨by rw [<-hl];exact hi,ex.sqT oI⟩,_,λah H' p'=>⟨m-1,by omega,p'⟩,λv' H' y=>?_⟩
   obtain ⟨e1,y⟩:=y
   subst e1
   obtain ⟨v,hv,rv⟩:=(Rs.ext ex _ om).get lZ
   rw [<-hl,hv] at y
   cases y
   unfold forL at h
   cases hgx:gt x env with
   | none=>simp only [hgx] at h;exact h.elim
   | some bf =>
    simp only [hgx] at h
    refine ⟨x,env,bf,ρ,rv,re,hgx,λaw r1=>⟨bf,st,ρ,r1,rs,Out.then h λal H3 fl aX e3 s3 h3=>?_⟩⟩
    cases fl with
    | nx e=>exact λay r4=>⟨by omega,e,aX,al,r4,s3,ex.trans e3,h3⟩
    | ct e=>exact λay r4=>⟨by omega,e,aX,al,r4,s3,ex.trans e3,h3⟩
    | bk e=>exact Out.fl (D:=D) (fl:=.nx e) (E:=Er) h3 s3
    | rt v=>exact Out.fl (D:=D) (fl:=.rt v) (E:=Er) h3 s3
  ·have:i=xs.length:=by omega
   subst this
   rw [g9 (by simp)] at h
   exact .inl ⟨hl,Out.now (x:=Fl.nx env) h rs σ re⟩⟩
end
end Mi
namespace L2
open PySem PySem.Spec PyProof.Rows PySem.W
def Pm (C:Addr) (i j:Nat) (tv:TX) (tsu:TS):TS:=λD σ H=>tv σ H (λv H1=>D.nx (σ.set i (some v)) H1)
 (λc d H1=>c=.ref C/\∀a,H1 a=none->tsu { nx:=λah H'=>D.nx (ah.set j none) H',rt:=D.rt } (σ.set j (some (.ref a))) (upd H1 a (fL C d a)))
def Pn {X:Cx}{C:Addr}{i j:Nat}{x n cls:Str}{value:Expr}{tv:TX}{tsu:TS}{b0:Stmt}{bM:List Stmt}{xp ap cp hp pos:Pos}(hN:X.N.Nodup) (hi:X.N[i]?=some x) (hx:Loc X.env.scope x) (hj:X.N[j]?=some n) (hn:X.env.scope.names.lookup n=some .local)
  (hv:PX X value tv) (hg:Gl X cls) (hm:X.mg cls=some (.ref C)) (hC:fK X.K C) (oM:∀a,bS (X.caught a) (b0::bM) tsu) (a9:X.stack=X.env::X.outer) (cZ:X.env.frame=some X.env.locals)
  (fS:swapsWith value (some (.Name x xp)) ap.line X.env=pure false:=by rfl) (hf:X.fn x=true\/X.env.scope.names.lookup x=some .local:=by first|exact .inl rfl|exact .inr rfl|assumption) (cf:(cls==("__debug__" : Str))=false:=by decide) :
  PS X (.Try [.Assign [.Name x xp] value ap] [.ExceptHandler (some (.Name cls cp)) (some n) (b0::bM) hp] [] [] pos) (Pm C i j tv tsu):=by
 intro pins s σ H D I h
 rw [arm_exec_Try]
 refine zl (wpAny_standAt (wpAny_tryStmt_except (wpAny_execs_cons (wpAny_Assign_Name (yV (hv pins s σ H _ _ I h) (λv s1 ⟨y,H1,I1,r1,q1⟩=>lI I1 hN hi hx r1 (λs2 I2=>?_) hf) (λu s1 ⟨a,C',d,H1,eu,I1,Po,ec,q⟩=>?_)) fS))))
 ·exact wpAny_execs_nil (wpAny_execs_nil ⟨_,H1,I2,q1⟩)
 subst eu
 cases ec
 refine Be I1 I.ok.frames a9 cZ Po λs2 T I2 x2 ne tu oa oT=>sY I2 x2 ne tu oa oT λs3 I3 x3 nF=>?_
 refine wpAny_handleBy_cons (codeAny_handlers_test ?_) (by intro q;cases q)
 refine mR (X:=X.caught a) (Inv.caught I3 a) hg hm ?_ cf
 obtain ⟨⟨nm,q',N,bs,bm,b9,sn,sub,ab,col,dd,k0,k1,k2,k3,k5,hl,ht,_⟩,_⟩:=hC
 have qz:=I3.kIn _ _ hl
 have bX:bm.contains (.type "BaseException")=true:=(tail_of_in I3.kIn ht).hasType (by decide)
 obtain ⟨oe,vs,he,g_,_⟩:=id x3
 refine wpAny_excMatches_sub_self (h:=s3.heap) (g:=s3.gens) (d:=s3.drawn) (t:=s3.toks) (os:=s3.os) qz he g_ bX ?_
 refine codeAny_handlers_suite_as (sY I3 x3 ne nF oa oT λs4 I4 x4 Wy=>?_)
 have I5:=Inv.catch I4 oa x4
 refine lI I5 hN hj (.inl hn) (v:=.ref a) rfl (λs5 I6=>?_) (.inr hn)
 refine yV (oM a pins s5 _ _ _ (Inv.caught I6 a) (q a oa.1)) (λf s6 z=>?_) λ_ _ z=>z.elim
 cases f with
 | next =>
  obtain ⟨ah,H',I7,q7⟩:=z
  exact Bn (Inv.uncaught I.ok I7) hN hj hn λs7 I8=>⟨_,H',I8,q7⟩
 | brk=>obtain ⟨_,_,_,z⟩:=z;exact z.elim
 | cont=>obtain ⟨_,_,_,z⟩:=z;exact z.elim
 | ret u =>
  obtain ⟨v,ah,H',I7,r7,q7⟩:=z
  exact Bn (Inv.uncaught I.ok I7) hN hj hn λs7 I8=>⟨v,_,H',I8,r7,q7⟩
end L2
namespace Mi
open PySem L2 PySem.W PySem.Spec
section
variable {X:Cx}{Er:XK}{pos:Pos}
def gR (i j:Nat) (cn:Str) (fv:Ai) (bM:Aj):Aj:=λenv st=>match fv env st with
 | .ok x aa=>.ok (.nx (env.set i (some x))) aa
 | .err c ks xs aa=>if c=cn/\ks≠[] then (br (bM (env.set j (some (.exo c ks xs))) aa)).bind (ux j) else .stuck
 | .stuck=>.stuck
def Pp (i j:Nat) {x n cn:Str}{value:Expr}{fv:Ai}{gs:Aj}{b0:Stmt}{bM:List Stmt}{xp ap cp hp:Pos}{C:Addr}(hm:X.mg cn=some (.ref C)) (hC:fK X.K C) (hv:MX X value fv) (oM:∀a,dc (X.caught a) E0 (b0::bM) gs) (hN:X.N.Nodup)
  (a9:X.stack=X.env::X.outer:=by rfl) (cZ:X.env.frame=some X.env.locals:=by rfl) (hi:X.N[i]?=some x:=by rfl) (hx:Loc X.env.scope x:=by first|exact Or.inl rfl|exact Or.inr rfl) (hj:X.N[j]?=some n:=by rfl) (hn:X.env.scope.names.lookup n=some .local:=by rfl) (hg:Gl X cn:=by rfl)
  (fS:swapsWith value (some (.Name x xp)) ap.line X.env=pure false:=by rfl) (hf:X.fn x=true\/X.env.scope.names.lookup x=some .local:=by first|exact .inl rfl|exact .inr rfl|assumption) (cf:(cn==("__debug__" : Str))=false:=by decide) :
  MS X Er (.Try [.Assign [.Name x xp] value ap] [.ExceptHandler (some (.Name cn cp)) (some n) (b0::bM) hp] [] [] pos) (gR i j cn fv gs) :=
 PS.weak (Pn (tsu:=sM X.K X.mg E0 gs) hN hi hx hj hn hv hg hm hC oM a9 cZ fS hf cf) λD σ H ⟨env,st,ρ,re,rs,h⟩=>by
  refine ⟨env,st,ρ,re,rs,?_⟩
  unfold gR at h
  cases hr:fv env st with
  | ok y aa =>
   rw [hr] at h
   exact λag H1 e1 s1 v rv=>h ag H1 e1 s1 _ ((re.ext e1).set i rv)
  | stuck=>rw [hr] at h;exact h.elim
  | err c ks xs aa =>
   simp only [hr] at h
   obtain ⟨⟨Pq,hk⟩,h2⟩:=Out.ifp h
   subst Pq
   intro ag H1 Cv d e1 s1 xr
   obtain ⟨C',rfl,hm',hd⟩:=xr
   rw [hm] at hm'
   cases hm'
   refine ⟨rfl,λq hq=>?_⟩
   rcases hd with ⟨uF,_⟩|⟨dd,vs,rfl,Pr,hR,hl⟩
   ·exact absurd uF hk
   ·have eq:Ext ag H1 ag (upd H1 q (fL C (some dd) q)):=Ext.new hq
    refine ⟨env.set j (some (.exo c ks xs)),aa,ag,((re.ext e1).ext eq).set j ⟨q,C,dd,vs,rfl,hm,yC,eq.imm _ _ Pr rfl,Rs.ext eq xs hR,hl⟩,s1.new hq,j8 (Out.ext h2 (e1.trans eq)) λao H2 fl aK e2 s2 h2=>?_⟩
    cases fl with
    | nx e=>exact λaE r2=>Out.fl (D:=D) (fl:=.nx (e.set j none)) (E:=Er) h2 s2 _ (r2.unset j)
    | rt v=>exact Out.fl (D:=D) (fl:=.rt v) (E:=Er) h2 s2
    | _=>exact h2.elim
def Pt (i j:Nat) {x n cn:Str}{value:Expr}{fv:Ai}{gs:Aj}{b0:Stmt}{bM:List Stmt}{xp ap cp hp:Pos}(hC:∃C,X.mg cn=some (.ref C)/\fK X.K C) (hv:MX X value fv) (oM:∀a,dc (X.caught a) E0 (b0::bM) gs) (hN:X.N.Nodup)
  (a9:X.stack=X.env::X.outer:=by rfl) (cZ:X.env.frame=some X.env.locals:=by rfl) (hi:X.N[i]?=some x:=by rfl) (hx:Loc X.env.scope x:=by first|exact Or.inl rfl|exact Or.inr rfl) (hj:X.N[j]?=some n:=by rfl) (hn:X.env.scope.names.lookup n=some .local:=by rfl) (hg:Gl X cn:=by rfl)
  (fS:swapsWith value (some (.Name x xp)) ap.line X.env=pure false:=by rfl) (hf:X.fn x=true\/X.env.scope.names.lookup x=some .local:=by first|exact .inl rfl|exact .inr rfl|assumption) (cf:(cn==("__debug__" : Str))=false:=by decide) :
  MS X Er (.Try [.Assign [.Name x xp] value ap] [.ExceptHandler (some (.Name cn cp)) (some n) (b0::bM) hp] [] [] pos) (gR i j cn fv gs):=by
 obtain ⟨C,h1,h2⟩:=hC
 exact Pp i j h1 h2 hv oM hN a9 cZ hi hx hj hn hg fS hf cf
end
end Mi
abbrev Mi.Au (n:Nat):Option Mi.PV:=some (.ref n)
abbrev Mi.Av (n:Nat):Option Mi.PV:=some (.int n)
abbrev Mi.Ar (i:Int):=Mi.mC (.int i)
abbrev Mi.As (z:PySem.Str):=Mi.mC (.str z)
namespace FK70
open PySem L2 PySem.W Mi
def top (i:Nat):Stmt:=PySem.Challenge.pw_foreknown_k70_numbers_done.main.body.getD i (.Pass ⟨0,0,0,0⟩)
abbrev Dw:Stmt:=top 84
abbrev Dx:Stmt:=top 86
abbrev Dy:Stmt:=top 89
abbrev Dz:Stmt:=top 87
abbrev DA:Stmt:=top 88
abbrev DB:Stmt:=top 90
abbrev zeP:Stmt:=top 85
abbrev DC:Stmt:=top 54
abbrev DD:Stmt:=top 6
abbrev DE:Stmt:=top 56
abbrev DF:Stmt:=top 48
abbrev DG:Stmt:=top 50
abbrev zdm:Stmt:=top 52
abbrev zeQ:Stmt:=top 63
abbrev DH:Stmt:=top 68
abbrev DI:Stmt:=top 74
abbrev DJ:Stmt:=top 58
abbrev zeR:Stmt:=top 59
abbrev DK:Stmt:=top 13
abbrev DL:Stmt:=top 40
abbrev DM:Stmt:=top 11
abbrev DN:Stmt:=top 17
abbrev DO:Stmt:=top 19
abbrev DQ:Stmt:=top 20
abbrev DS:Stmt:=top 21
abbrev DT:Stmt:=top 22
abbrev DU:Stmt:=top 23
abbrev DV:Stmt:=top 18
abbrev DW:Stmt:=top 24
abbrev DX:Stmt:=top 26
abbrev DY:Stmt:=top 12
abbrev DZ:Stmt:=top 14
abbrev D1:Stmt:=top 15
abbrev zeS:Stmt:=inClass (top 42) 1
abbrev zeT:Stmt:=inClass (top 42) 0
abbrev D2:Stmt:=top 43
abbrev zcd:Stmt:=inClass (top 69) 1
abbrev zeU:Stmt:=inClass (top 69) 3
abbrev zeV:Stmt:=inClass (top 69) 2
abbrev zeW:Stmt:=inClass (top 69) 0
abbrev D5:Stmt:=top 70
abbrev D6:Stmt:=top 47
abbrev D7:Stmt:=top 51
abbrev D8:Stmt:=top 72
abbrev D9:Stmt:=top 73
abbrev D_:Stmt:=top 75
abbrev Ea:Stmt:=top 7
abbrev Eb:Stmt:=top 64
abbrev Ec:Stmt:=top 76
abbrev Ef:Stmt:=top 78
abbrev zeX:Stmt:=top 53
abbrev Eg:Stmt:=top 49
abbrev zeY:Stmt:=inClass (top 79) 0
abbrev zeZ:Stmt:=inClass (top 79) 3
abbrev ze0:Stmt:=inClass (top 79) 6
abbrev ze1:Stmt:=top 80
abbrev Eh:Stmt:=top 60
abbrev Ei:Stmt:=top 61
abbrev ze2:Stmt:=top 62
abbrev ze3:Stmt:=top 65
abbrev ze4:Stmt:=top 66
abbrev Ej:Stmt:=top 82
abbrev zdn:Stmt:=top 91
abbrev ze5:Stmt:=inClass (top 3) 0
def insOf (c:Str):Bool:=decide (c = "Folding")||decide (c = "Host")||decide (c = "Op")
def excOf (c:Str):Bool:=decide (c = "Fault")
def isT:IsT where
 isx c:=false
 sub c B :=  none
 subT c n :=  none
 tyC _ _:=none
def jb:Ad:=["add", "sub", "mul", "div", "rem", "less", "down"]
def jc:An:=[.tup [.tup [.str "number", .str "number"],.fn "tell_add"],.tup [.tup [.str "number", .str "number"],.fn "tell_sub"],.tup [.tup [.str "number", .str "number"],.fn "tell_mul"],.tup [.tup [.str "number", .str "number"],.fn "tell_div"],.tup [.tup [.str "number", .str "number"],.fn "tell_rem"],.tup [.tup [.str "number", .str "number"],.fn "tell_less"],.tup [.tup [.str "number"],.fn "tell_down"]]
abbrev ze6:Bool:=false
structure Txt (w:World) (K:Frag) (mg:Ab):Prop where
 f__law_cell_at:FnF K mg "_law_cell_at" Dw ["_law_script", "_law_k"]
 f__law_atom:FnF K mg "_law_atom" Dx ["_law_number", "_law_names"]
 f__law_steps:FnF K mg "_law_steps" Dy ["_law_script", "_law_stem"]
 f__law_of:FnF K mg "_law_of" Dz ["_law_atom_here", "_law_values"]
 f__law_told:FnF K mg "_law_told" DA ["_law_word", "_law_n", "_law_m"]
 f__law_end:FnF K mg "_law_end" DB ["_law_steps_here", "_law_atom_here"]
 f__law_alike:FnF K mg "_law_alike" zeP ["_law_found", "_law_due"]
 f_functions_by_name:FnF K mg "functions_by_name" DC ["program"]
 f_turned_round:FnF K mg "turned_round" DD ["called"]
 f_marked:FnF K mg "marked" DE ["names"]
 f_lines_of:FnF K mg "lines_of" DF ["block"]
 f_aim_of:FnF K mg "aim_of" DG ["line"]
 f_aims_of:FnF K mg "aims_of" zdm ["block"]
 f_aimed_names:FnF K mg "aimed_names" zeQ ["functions"]
 f_answer_of:FnF K mg "answer_of" DH ["function"]
 f_answers_beside:FnF K mg "answers_beside" DI ["functions", "names"]
 f_stead_of:FnF K mg "stead_of" DJ ["atom", "steads"]
 f_steads_of:FnF K mg "steads_of" zeR ["atoms", "steads"]
 f_kind_of:FnF K mg "kind_of" DK ["value"]
 f_check_kinds:FnF K mg "check_kinds" DL ["kinds", "values"]
 f_in_bounds:FnF K mg "in_bounds" DM ["number"]
 f_within_bounds:FnF K mg "within_bounds" DN ["number"]
 f_tell_add:FnF K mg "tell_add" DO ["values"]
 f_tell_sub:FnF K mg "tell_sub" DQ ["values"]
 f_tell_mul:FnF K mg "tell_mul" DS ["values"]
 f_tell_div:FnF K mg "tell_div" DT ["values"]
 f_tell_rem:FnF K mg "tell_rem" DU ["values"]
 f_number_of:FnF K mg "number_of" DV ["truth"]
 f_tell_less:FnF K mg "tell_less" DW ["values"]
 f_tell_down:FnF K mg "tell_down" DX ["values"]
 f_things_within:FnF K mg "things_within" DY ["thing"]
 f_all_within:FnF K mg "all_within" DZ ["thing"]
 f_parts:FnF K mg "parts" D1 ["value"]
 m_Op_answer:MtF K mg "Op" "answer" "Op.answer" zeS ["self", "values"]
 n_Op:NwF K mg "Op" "Op.__init__" zeT ["self", "word"]
 f_op_of:FnF K mg "op_of" D2 ["word"]
 m_Folding_told_by:MtF K mg "Folding" "told_by" "Folding.told_by" zcd ["self", "step", "atoms"]
 m_Folding_folded_end:MtF K mg "Folding" "folded_end" "Folding.folded_end" zeU ["self", "end"]
 m_Folding_folded_block:MtF K mg "Folding" "folded_block" "Folding.folded_block" zeV ["self", "block"]
 n_Folding:NwF K mg "Folding" "Folding.__init__" zeW ["self", "answers"]
 f_mark_names:FnF K mg "mark_names" D5 ["atoms", "used"]
 f_is_step:FnF K mg "is_step" D6 ["line"]
 f_atoms_of:FnF K mg "atoms_of" D7 ["line"]
 f_swept_block:FnF K mg "swept_block" D8 ["block", "used"]
 f_folded:FnF K mg "folded" D9 ["function", "answers"]
 f_fold_all:FnF K mg "fold_all" D_ ["functions", "names"]
 f_found_from:FnF K mg "found_from" Ea ["thing", "called", "before"]
 f_met_names:FnF K mg "met_names" Eb ["functions", "main"]
 f_kept:FnF K mg "kept" Ec ["functions", "main"]
 f_lone_functions:FnF K mg "lone_functions" Ef ["functions", "main"]
 f_steps_of:FnF K mg "steps_of" zeX ["block"]
 f_depth_of:FnF K mg "depth_of" Eg ["block"]
 n_Host:NwF K mg "Host" "Host.__init__" zeY ["self", "function", "lone"]
 m_Host_may_join:MtF K mg "Host" "may_join" "Host.may_join" zeZ ["self", "end", "outer"]
 m_Host_joined_block:MtF K mg "Host" "joined_block" "Host.joined_block" ze0 ["self", "block", "outer"]
 f_join_all:FnF K mg "join_all" ze1 ["functions", "main"]
 f_renamed_step:FnF K mg "renamed_step" Eh ["step", "steads", "named"]
 f_renamed_end:FnF K mg "renamed_end" Ei ["end", "steads", "named"]
 f_renamed_block:FnF K mg "renamed_block" ze2 ["block", "steads", "named"]
 f_renamed_function:FnF K mg "renamed_function" ze3 ["function", "named"]
 f_renamed:FnF K mg "renamed" ze4 ["functions", "main"]
 f_tidied:FnF K mg "tidied" Ej ["program"]
 f_law:FnF K mg "law" zdn ["_law_script"]
 x_Fault:XnF K mg "Fault" "word" "Fault.__init__" ze5
 b_abs:mg "abs" = none
 b_all:mg "all" = none
 b_bool:mg "bool" = none
 b_dict:mg "dict" = none
 b_enumerate:mg "enumerate" = none
 b_int:mg "int" = none
 b_isinstance:mg "isinstance" = none
 b_len:mg "len" = none
 b_list:mg "list" = none
 b_range:mg "range" = none
 b_reversed:mg "reversed" = none
 b_str:mg "str" = none
 b_tuple:mg "tuple" = none
 b_zip:mg "zip" = none
 c_MOST_PARTS:∃t,mg "MOST_PARTS" = some (.int 60 t)
 c_NUMBER_BOUND:∃t,mg "NUMBER_BOUND" = some (.int 1000000000000000000 t)
 d_answers:FldF K mg "answers" insOf excOf
 d_depth:FldF K mg "depth" insOf excOf
 d_joined_names:FldF K mg "joined_names" insOf excOf
 d_lone:FldF K mg "lone" insOf excOf
 d_many:FldF K mg "many" insOf excOf
 d_name:FldF K mg "name" insOf excOf
 d_size:FldF K mg "size" insOf excOf
 d_steads:FldF K mg "steads" insOf excOf
 d_taken:FldF K mg "taken" insOf excOf
 d_word:FldF K mg "word" insOf excOf
 is:IsF K mg isT
 kd_OPS:∀X:Cx,X.K=K->X.mg=mg->X.w=w->KdF X "OPS" jb jc ze6
section
variable {P:Program}{w:World}{K:Frag}{mg:Ab}{base:Heap}
set_option hygiene false in
local macro_rules
|`(tactic|exact $s:str)=>do
 let ts<-(s.getString.splitOn " ").toArray.mapM λ(w:String)=>do
  let p:=(w.drop 1).toString
  let i:Lean.TSyntax `term:=if p.all Char.isDigit then ⟨(Lean.Syntax.mkNumLit p).raw⟩ else ⟨(Lean.mkIdent p.toName).raw⟩
  match w.toList.headD 'a' with
  |'a'=>`(tactic|refine $i ?_ ?_)
  |'b'=>`(tactic|exact (zf $i))
  |'c'=>`(tactic|exact $i)
  |'d'=>`(tactic|refine $i ?_)
  |'e'=>`(tactic|refine zB ?_ ?_ ?_ ?_)
  |'f'=>`(tactic|refine zZ ($i T) (hr.mono (by decide)) zR ?_)
  |'g'=>`(tactic|exact λ_ _=>rfl)
  |'h'=>`(tactic|exact (zC (zq hr)))
  |'i'=>`(tactic|refine yb ($i (zq hr)) ?_ ?_)
  |'j'=>`(tactic|refine z0 $i ?_ ?_)
  |'k'=>`(tactic|refine ye ?_ ?_ ?_)
  |'l'=>`(tactic|refine yd $i ?_ ?_)
  |'m'=>`(tactic|refine $i (yO rfl rfl) rfl ?_ ?_ ?_)
  |'n'=>`(tactic|refine zj ?_ ?_)
  |'o'=>`(tactic|refine yI (j6 T.is) T.b_isinstance j9 ?_)
  |'p'=>`(tactic|refine yI jy T.b_len jv ?_)
  |'q'=>`(tactic|exact zo)
  |'r'=>`(tactic|exact zu)
  |'s'=>`(tactic|refine zx ?_ ?_)
  |'t'=>`(tactic|refine ja j5 T.b_tuple jw ?_)
  |'u'=>`(tactic|refine zy ?_)
  |'v'=>`(tactic|refine jZ ?_ ?_ ?_ ?_ ?_)
  |'w'=>`(tactic|refine yb $i ?_ ?_)
  |'x'=>`(tactic|refine l9 (N:=["self", "step", "atoms"]) rfl (by exact ⟨rfl,by decide +kernel,by decide +kernel,rfl,by show ∀y:Str×NameKind,y∈_->y.2=NameKind.free->List.lookup y.1 (zE zcd).names=some NameKind.cell;decide +kernel⟩) rfl (by decide +kernel) ?_ ?_)
  |'y'=>`(tactic|refine Ln (λc m h=>$i T h) ?_ (hr.mono (by decide)) zR ?_)
  |'z'=>`(tactic|intro _ _ _ _ _)
  |'A'=>`(tactic|refine zZ ($i T) (hr.mono (by decide)) Ci ?_)
  |'B'=>`(tactic|exact (zq hr))
  |'C'=>`(tactic|refine LV (Pu T) ?_ (hr.mono (by decide)) zR rfl)
  |'D'=>`(tactic|exact (zf 0))
  |'E'=>`(tactic|refine zN ?_)
  |'F'=>`(tactic|refine wL $i ?_ ?_)
  |'G'=>`(tactic|exact zT)
  |'H'=>`(tactic|refine tN ($i (zq hr)) ?_ ?_)
  |'I'=>`(tactic|refine LU (yO rfl rfl) ?_ ?_)
  |'J'=>`(tactic|refine wK $i ?_)
  |'K'=>`(tactic|exact yg)
  |'L'=>`(tactic|refine ja (ND rfl) T.b_list L_ ?_)
  |'M'=>`(tactic|refine $i (T.kd_OPS _ rfl rfl rfl) ?_)
  |'N'=>`(tactic|refine $i (yO rfl rfl) rfl T.b_enumerate ?_ ?_ ?_)
  |'O'=>`(tactic|exact (zf 1))
  |'P'=>`(tactic|refine yk ?_)
  |'Q'=>`(tactic|refine ja Ni T.b_str BS ?_)
  |'R'=>`(tactic|refine Lq ($i T) (hr.mono (by decide)) zR ?_)
  |'S'=>`(tactic|exact yo)
  |'T'=>`(tactic|exact (j3 T.b_tuple jw))
  |'U'=>`(tactic|exact (ji 3 $i))
  |'V'=>`(tactic|exact (ji 2 $i))
  |'W'=>`(tactic|exact (Of (zq hr)))
  |'X'=>`(tactic|exact (zf 2))
  |'Y'=>`(tactic|refine zZ (Ek T 8) (hr.mono (by decide)) zR ?_)
  |'Z'=>`(tactic|refine $i ?_ ?_ ?_)
  |'0'=>`(tactic|exact (j3 T.b_str BS))
  |'1'=>`(tactic|refine y0 ?_)
  |'2'=>`(tactic|rfl)
  |'3'=>`(tactic|exact El.nd)
  |'4'=>`(tactic|refine yb (yF (zq hr)) ?_ ?_)
  |'5'=>`(tactic|refine yI (Og rfl) T.b_all Oh ?_)
  |'7'=>`(tactic|exact ⟨rfl,by decide +kernel,by decide +kernel,rfl,by show ∀y:Str×NameKind,y∈_->y.2=NameKind.free->List.lookup y.1 (zE $i).names=some NameKind.cell;decide +kernel⟩)
  |'8'=>`(tactic|exact ⟨rfl,by decide +kernel,by decide +kernel,by show ∀y:Str×NameKind,y∈_->y.2=NameKind.free->List.lookup y.1 (zE $i).names=some NameKind.cell;decide +kernel⟩)
  |'!'=>`(tactic|first|exact Or.inl rfl|exact Or.inr rfl)
  |'#'=>`(tactic|first|exact .inl rfl|exact .inr rfl|assumption)
  |'6'=>`(tactic|exact ⟨rfl,rfl,rfl,by decide +kernel,rfl,by decide +kernel,by decide +kernel⟩)
  |_=>Lean.Macro.throwUnsupported
 `(tactic|($[$ts]*))
def Pw:ax ["self", "word"] ["self", "word"] (zE ze5):=by exact "6"
def Pu (T:Txt w K mg):uc P w K mg base "Fault" "word" := T.x_Fault.ok Pw λ_ _ _ _ _ _ _ _ _=>xk (J2 (pv 0) (pv 1) rfl)
def Px:ax ["_law_script", "_law_k"] ["_law_script", "_law_k"] (zE Dw):=by exact "6"
def Py:Aj :=
  (zL (zh yx (zh jq (Ar 5) (zd 1)) (Ar 2)))
def Pz:Aj :=
  zp (zS (mB (zh jX (zd 1) (zt yq (ze (zd 0) zk))))
  (zL (zh zn (zd 0) (zd 1)))
  zX) (Py)
def my:Al:=zH 2 2 (Pz)
def zju (T:Txt w K mg):a5 P w K mg base "_law_cell_at" 1 my:=T.f__law_cell_at.ok (k:=0) Px λ_ _ _ _ _ _ _ hr=>by
 exact "s k wwX O p n D q u E e h D O g K u E ljG lzaq r O r"
def PB:ax ["_law_number", "_law_names"] ["_law_number", "_law_names"] (zE Dx):=by exact "6"
def PC:Aj :=
  (zL (zW (ze (As "is") (ze (zh wq (zh yH (zh jF (zd 0) (Ar 15)) (Ar 41)) (Ar 20)) zk))))
def PD:Aj :=
  zp (zS (mB (zh yc (zh yH (zh jF (zd 0) (Ar 3)) (Ar 5)) (Ar 0)))
  (zL (zW (ze (As "is") (ze (zh wq (zh yH (zh jq (zd 0) (Ar 465661287)) (zh wq (zh jq (Ar 2) (zh wW (Ar 10) (Ar 18))) (Ar 1))) (zh wq (zh wW (Ar 10) (Ar 18)) (Ar 1))) zk))))
  zX) (PC)
def PF:Aj :=
  zp (zS (jE (mB (zh jo (zh yH (zd 0) (Ar 3)) (Ar 0))) (mB (zh jo (zt yq (ze (zd 1) zk)) (Ar 0))))
  (zL (zW (ze (As "of") (ze (zh zn (zd 1) (zh yH (zh jF (zd 0) (Ar 3)) (zt yq (ze (zd 1) zk)))) zk))))
  zX) (PD)
def iE:Al:=zH 2 2 (PF)
def zjv (T:Txt w K mg):a5 P w K mg base "_law_atom" 1 iE:=T.f__law_atom.ok (k:=0) PB λ_ _ _ _ _ _ _ hr=>by
 exact "s k dwV azaN wzaP ljL D r r dzbi wzaP p n O q r u E P n G n e h O ljL lzao D r p n O q g q K s k 4 ljL lzao D r r r u E P n G n lzan ljL lzaq D r lzan lzaq r lzcO r r r lzan lzcO r r r q K u E P n G n lzan ljL lzao D r r r q"
def zaY:ax ["_law_script", "_law_stem", "_law_steps_here", "_law_names", "_law_k", "_law_cell", "_law_word", "_law_atoms"] ["_law_script", "_law_stem"] (zE Dy):=by exact "6"
def PH:Aj :=
  (zL (zd 2))
def PJ:Aj :=
  zp (ma (ze (kC (zd 0) eV (d5 (Ar 59))) zk) (g2 4 5)
  (zp (zK 6 (zh zn (y6 (kJ ["add", "sub", "mul", "div", "rem", "less", "down"])) (zh yH (zd 5) (Ar 7))))
  (zp (zK 7 (zW (ze (zt iE (ze (zh yH (zh jF (zd 5) (Ar 7)) (Ar 2147483647)) (ze (zd 3) zk))) zk)))
  (zp (zS (mB (zh ju (zd 6) (As "down")))
  (zK 7 (zh yx (zd 7) (zW (ze (zt iE (ze (zh yH (zh yx (zh yx (zh jq (zd 5) (Ar 48271)) (zh jq (Ar 7919) (zd 4))) (Ar 1)) (Ar 2147483647)) (ze (zd 3) zk))) zk))))
  zX)
  (zp (j7 (w6 wZ (zd 3) (zh yx (zd 1) (zt wc (ze (zd 4) zk)))))
  (j7 (w6 wZ (zd 2) (zW (ze (As "let") (ze (zh yx (zd 1) (zt wc (ze (zd 4) zk))) (ze (zd 6) (ze (zd 7) zk)))))))))))) (PH)
def PK:Aj :=
  zp (zK 3 (y6 zk)) (PJ)
def PL:Aj :=
  zp (zK 2 (y6 zk)) (PK)
def uU:Al:=zH 2 8 (PL)
def zrQ (T:Txt w K mg):a5 P w K mg base "_law_steps" 2 uU:=T.f__law_steps.ok (k:=1) zaY λ_ _ _ _ _ _ _ hr=>by
 exact "s j2 djQ q czaY.nd s j3 djQ q czaY.nd s Nzh1 n Zzht D czhr dzhs r q"
 exact (qj 4 5 rfl zaY.nd)
 exact "s j6 e h djQ dzh4"
 decide +kernel
 exact "ljL b5 r g czaY.nd s j7 P n fzjv n ljL lzao b5 r r n b3 q q czaY.nd s k izbj b6 G u j7 ljG b7 P n fzjv n ljL ljG ljG lzaq b5 r lzaq r b4 r r n b3 q q czaY.nd K s dzbk azhC b3 ljG O Q n b4 q u dzbk azhC X P n G n ljG O Q n b4 q n b6 n b7 q u E X"
def PN:ax ["_law_atom_here", "_law_values"] ["_law_atom_here", "_law_values"] (zE Dz):=by exact "6"
def PQ:Aj :=
  (zL (zh zn (zd 0) (Ar 1)))
def PU:Aj :=
  zp (zS (mB (zh yc (zh zn (zd 0) (Ar 0)) (As "of")))
  (zL (zh zn (zd 1) (zh zn (zd 0) (Ar 1))))
  zX) (PQ)
def iF:Al:=zH 2 2 (PU)
def ze8 (T:Txt w K mg):a5 P w K mg base "_law_of" 1 iF:=T.f__law_of.ok (k:=0) PN λ_ _ _ _ _ _ _ hr=>by
 exact "s k 4 e h D r g G u E e h O e h D r g g K u E e h D r g"
def zjw:ax ["_law_word", "_law_n", "_law_m", "_law_found"] ["_law_word", "_law_n", "_law_m"] (zE DA):=by exact "6"
def PY:Aj :=
  (zL (zW (ze (As "is") (ze (zd 3) zk))))
def Em:Aj :=
  zp (zS (mB (zh qd (zt mi (ze (zd 3) zk)) (zh wW (Ar 10) (Ar 18))))
  (zL (zW (ze (As "fail") (ze (As "wide") zk))))
  zX) (PY)
def uV:Aj :=
  zp (zK 3 (zh zn (y6 (ze (zh yx (zd 1) (zd 2)) (ze (zh wq (zd 1) (zd 2)) (ze (zh jq (zd 1) (zd 2)) zk)))) (qD (y6 (kJ ["add", "sub", "mul"])) (zd 0)))) (Em)
def Eo:Aj :=
  zp (zS (wJ (mB (zh yc (zd 0) (As "div"))) (mB (zh yc (zd 0) (As "rem"))))
  (zp (zS (mB (zh yc (zd 2) (Ar 0)))
  (zL (zW (ze (As "fail") (ze (As "nought") zk))))
  zX)
  (zL (zW (ze (As "is") (ze (zh zn (y6 (ze (zh jF (zd 1) (zd 2)) (ze (zh yH (zd 1) (zd 2)) zk))) (zt nX (ze (zh yc (zd 0) (As "rem")) zk))) zk)))))
  zX) (uV)
def PZ:Aj :=
  zp (zS (mB (zh yc (zd 0) (As "less")))
  (zL (zW (ze (As "is") (ze (zt nX (ze (zh jX (zd 1) (zd 2)) zk)) zk))))
  zX) (Eo)
def Ep:Aj :=
  zp (zS (mB (zh yc (zd 0) (As "down")))
  (zp (zS (mB (zh jX (zd 1) (Ar 1)))
  (zL (zW (ze (As "fail") (ze (As "low") zk))))
  zX)
  (zL (zW (ze (As "is") (ze (zh wq (zd 1) (Ar 1)) zk)))))
  zX) (PZ)
def kP:Al:=zH 3 4 (Ep)
def zrW (T:Txt w K mg):a5 P w K mg base "_law_told" 1 kP:=T.f__law_told.ok (k:=0) zjw λ_ _ _ _ _ _ _ hr=>by
 exact "s k 4 D G s k wwX O r u E P n G n G q K u E P n G n lzan O r q K s k 4 D G u E P n G n"
 refine ja BJ T.b_int qo ?_
 exact "n"
 refine tN wX ?_ ?_
 exact "O X q q K s k dwV azcK 4 D G dzeg 4 D G s k 4 X r u E P n G n G q K u E P n G n e h djQ n lzao O X n ljL O X q"
 refine ja BJ T.b_int qo ?_
 exact "n HyF D G q g q K s j3 e h djQ n ljG O X n lzan O X n lzaq O X q azq3 djQ dzh4"
 decide +kernel
 exact "D g czjw.nd s k wzoE"
 refine yI Ow T.b_abs Ox ?_
 exact "n b3 q lzcO r r u E P n G n G q K u E P n G n b3 q"
def zce:ax ["_law_steps_here", "_law_atom_here", "_law_values", "_law_step", "_law_n", "_law_found"] ["_law_steps_here", "_law_atom_here"] (zE DB):=by exact "6"
def P0:Aj :=
  (zL (zW (ze (As "give") (ze (zW (ze (As "is") (ze (zt iF (ze (zd 1) (ze (zd 2) zk))) zk))) zk))))
def P1:Aj :=
  zp (yZ (yt (zd 0)) (gN 3)
  (zp (zK 4 (zt iF (ze (zh zn (zh zn (zd 3) (Ar 3)) (Ar 0)) (ze (zd 2) zk))))
  (zp (zK 5 (zt kP (ze (zh zn (zd 3) (Ar 2)) (ze (zd 4) (ze (zt iF (ze (zh zn (zh zn (zd 3) (Ar 3)) (yz nQ (Ar 1))) (ze (zd 2) zk))) zk)))))
  (zp (zS (mB (zh yc (zh zn (zd 5) (Ar 0)) (As "fail")))
  (zL (zd 5))
  zX)
  (yT (zd 2) (zh zn (zd 3) (Ar 1)) (zh zn (zd 5) (Ar 1))))))) (P0)
def P4:Aj :=
  zp (zK 2 jH) (P1)
def uW:Al:=zH 2 6 (P4)
def zr0 (T:Txt w K mg):a5 P w K mg base "_law_end" 2 uW:=T.f__law_end.ok (k:=1) zce λ_ _ _ _ _ _ _ hr=>by
 exact "s j2 cjT czce.nd s mjR 1 D Uzce.nd s j4 fze8 n e h e h b3 r g r g n X q czce.nd s j5 fzrW n e h b3 r g n b4 n fze8 n e h e h b3 r g"
 refine By BC ?_
 exact "r g n X q q czce.nd s k 4 e h b5 r g G u E b5 K u v B X e h b3 r g e h b5 r g 2 u E P n G n P n G n fze8 n O n X q q q"
def Es:ax ["_law_found", "_law_due"] ["_law_found", "_law_due"] (zE zeP):=by exact "6"
def P5 (mr:Al):Aj :=
  yf
def P6 (mr:Al):Aj :=
  zp yf (P5 mr)
def P7 (mr:Al):Aj :=
  zp (zS (mB (zt (y7 isT) (ze (zd 1) (ze (mC (.ty "tuple")) zk))))
  (zp (zS (wJ (lY (mB (zt (y7 isT) (ze (zd 0) (ze (mC (.ty "tuple")) zk))))) (mB (zh ju (zt yq (ze (zd 0) zk)) (zt yq (ze (zd 1) zk)))))
  (zL (mC (.bl false)))
  zX)
  (zL (zt oE (ze (qB (og (ze (zd 0) (ze (zd 1) zk))) (zt mr (ze (zd 0) (ze (zd 1) zk)))) zk))))
  zX) (P6 mr)
def P8 (mr:Al):Aj :=
  zp (zS (mB (zt (y7 isT) (ze (zd 1) (ze (mC (.ty "str")) zk))))
  (zL (kB (zt (y7 isT) (ze (zd 0) (ze (mC (.ty "str")) zk))) (zh iA (zd 0) (zd 1))))
  zX) (P7 mr)
def P9 (mr:Al):Aj :=
  zp (zS (mB (zt (y7 isT) (ze (zd 1) (ze (mC (.ty "int")) zk))))
  (zL (kB (zt (y7 isT) (ze (zd 0) (ze (mC (.ty "int")) zk))) (kB (p9 (zt (y7 isT) (ze (zd 0) (ze (mC (.ty "bool")) zk)))) (zh iA (zd 0) (zd 1)))))
  zX) (P8 mr)
def oN (mr:Al):Al:=zH 2 2 (P9 mr)
def P_ (T:Txt w K mg) {k:Nat} (hk:1<=k) {mr:Al} (Qa:a5 P w K mg base "_law_alike" k mr):a5 P w K mg base "_law_alike" (k+1) (oN mr):=T.f__law_alike.ok (k:=k+0) Es λ_ _ _ _ _ _ _ hr=>by
 exact "s k djD o n O n"
 exact (j3 T.b_int qo)
 exact "q u E azcM o n D n"
 exact (j3 T.b_int qo)
 exact "q azcM dzou o n D n"
 exact (j3 T.b_bool L9)
 exact "q dzei HzeG D O K s k djD o n O n 0 q u E azcM o n D n 0 q dzei HzeG D O K s k djD o n O n T q s k dwV azcK dzeh djD o n D n T q dzeg izbj p n D q p n O q u E czbU K u E 5 n"
 refine Ol (N:=["_law_found", "_law_due"]) rfl (by exact "8zeP") rfl (by decide +kernel) ?_ ?_
 refine BR T.b_zip ?_
 exact "n D n O q z"
 refine zZ Qa (hr.mono (by omega)) Ci ?_
 exact "n D n O q q K s S u S"
def wP:Nat->Al
 | 0=>zH 2 2 yf
 | n+1=>oN (wP n)
def Ek (T:Txt w K mg):∀n,a5 P w K mg base "_law_alike" (1+1+1*n) (wP n)
 | 0=>T.f__law_alike.ok (k:=1) Es λf aW A outer s H E hr=>NF
 | n+1=>(P_ T (by omega) (Ek T n)).mono (by omega)
def zfc:ax ["program", "functions", "function"] ["program"] (zE DC):=by exact "6"
def Qb:Aj :=
  (zL (zd 1))
def Qc:Aj :=
  zp (yZ (yt (zd 0)) (gN 2)
  (yT (zd 1) (zh zn (zd 2) (Ar 0)) (zd 2))) (Qb)
def Qd:Aj :=
  zp (zK 1 jH) (Qc)
def qM:Al:=zH 1 3 (Qd)
def zsa (T:Txt w K mg):a5 P w K mg base "functions_by_name" 1 qM:=T.f_functions_by_name.ok (k:=0) zfc λ_ _ _ _ _ _ _ hr=>by
 exact "s j1 cjT czfc.nd s mjR 1 D Vzfc.nd u v B O e h X r g X 2 u E O"
def zcg:ax ["called", "callers", "thing", "there"] ["called"] (zE DD):=by exact "6"
def Qe:Aj :=
  (zL (zd 1))
def Qf:Aj :=
  zp (w8 (zd 0) (gN 2)
  (yZ (yt (zh jM (zd 0) (zd 2))) (gN 3)
  yf)) (Qe)
def Qg:Aj :=
  zp (w8 (zd 0) (gN 2)
  (yT (zd 1) (zd 2) (y6 zk))) (Qf)
def Qh:Aj :=
  zp (zK 1 jH) (Qg)
def uX:Al:=zH 1 4 (Qh)
def zsf (T:Txt w K mg):a5 P w K mg base "turned_round" 1 uX:=T.f_turned_round.ok (k:=0) zcg λ_ _ _ _ _ _ _ hr=>by
 exact "s j1 cjT czcg.nd s mzbv D Vzcg.nd u v B O X djQ q 2 s mzbv D Vzcg.nd u mjR 1 e W D X g Uzcg.nd u S u E O"
def zfe:ax ["names", "marks", "name"] ["names"] (zE DE):=by exact "6"
def Qi:Aj :=
  (zL (zd 1))
def Qj:Aj :=
  zp (yZ (yt (zd 0)) (gN 2)
  (yT (zd 1) (zd 2) (mC (.bl true)))) (Qi)
def Qk:Aj :=
  zp (zK 1 jH) (Qj)
def gT:Al:=zH 1 3 (Qk)
def zff (T:Txt w K mg):a5 P w K mg base "marked" 1 gT:=T.f_marked.ok (k:=0) zfe λ_ _ _ _ _ _ _ hr=>by
 exact "s j1 cjT czfe.nd s mjR 1 D Vzfe.nd u v B O X czbU 2 u E O"
def zfg:ax ["block", "end", "lines"] ["block"] (zE DF):=by exact "6"
def Ql:Aj :=
  (zL (zd 2))
def Qm:Aj :=
  zp (zS (mB (zh yc (zh zn (zd 1) (Ar 0)) (As "if")))
  yf
  zX) (Ql)
def Qn:Aj :=
  zp (zK 2 (zh yx (zh zn (zd 0) (Ar 0)) (zW (ze (zd 1) zk)))) (Qm)
def Qo:Aj :=
  zp (zK 1 (zh zn (zd 0) (Ar 1))) (Qn)
def iG:Al:=zH 1 3 (Qo)
def zfh (T:Txt w K mg):a5 P w K mg base "lines_of" 1 iG:=T.f_lines_of.ok (k:=0) zfg λ_ _ _ _ _ _ _ hr=>by
 exact "s j1 e h D r g czfg.nd s j2 ljG e h D r g P n O q czfg.nd s k 4 e h O r g G u S K u E X"
def Qp:ax ["line"] ["line"] (zE DG):=by exact "6"
def Qq:Aj :=
  (zL (mC .non))
def Qr:Aj :=
  zp (zS (mB (zh yc (zh zn (zd 0) (Ar 0)) (As "go")))
  yf
  zX) (Qq)
def Qs:Aj :=
  zp (zS (mB (zh yc (zh zn (zd 0) (Ar 0)) (As "call")))
  yf
  zX) (Qr)
def qN:Al:=zH 1 1 (Qs)
def zsr (T:Txt w K mg):a5 P w K mg base "aim_of" 1 qN:=T.f_aim_of.ok (k:=0) Qp λ_ _ _ _ _ _ _ hr=>by
 exact "s k 4 e h D r g G u S K s k 4 e h D r g G u S K u E czbg"
def Et:ax ["block", "aims"] ["block"] (zE zdm):=by exact "6"
def Qt:Aj :=
  (zL (zt jp (ze (w9 (yt (zd 1)) (mB (zh wN (zd 0) (mC .non))) (zd 0)) zk)))
def Qu:Aj :=
  zp (zK 1 (jg (yt (zt iG (ze (zd 0) zk))) (zt qN (ze (zd 0) zk)))) (Qt)
def kQ:Al:=zH 1 2 (Qu)
def zjC (T:Txt w K mg):a5 P w K mg base "aims_of" 2 kQ:=T.f_aims_of.ok (k:=1) Et λ_ _ _ _ _ _ _ hr=>by
 exact "s"
 refine NX 1 (N:=["block", "aims"]) rfl (by exact "7zdm") rfl (by decide +kernel) ?_ ?_ Et.nd rfl (by exact "!") (by exact "#") (by rfl)
 exact "1 fzfh n D q z Azsr n D q u E t n"
 refine Dc (N:=["block", "aims"]) rfl (by exact "8zdm") rfl (by decide +kernel) ?_ ?_ ?_
 exact "1 O z wzeF D czbg z D q"
def zfi:ax ["functions", "aimed", "name"] ["functions"] (zE zeQ):=by exact "6"
def Qv:Aj :=
  (zL (zd 1))
def Qw:Aj :=
  zp (w8 (zd 0) (gN 2)
  (yT (zd 1) (zd 2) (zt jI (ze (zt gT (ze (jg (yt (zt kQ (ze (zh zn (zh jM (zd 0) (zd 2)) (Ar 2)) zk))) (zh zn (zd 0) (Ar 0))) zk)) zk)))) (Qv)
def Qx:Aj :=
  zp (zK 1 jH) (Qw)
def qO:Al:=zH 1 3 (Qx)
def zjD (T:Txt w K mg):a5 P w K mg base "aimed_names" 3 qO:=T.f_aimed_names.ok (k:=2) zfi λ_ _ _ _ _ _ _ hr=>by
 exact "s j1 cjT czfi.nd s mzbv D Vzfi.nd u v B O X L n fzff n"
 refine l9 (N:=["functions", "aimed", "name"]) rfl (by exact "7zeQ") rfl (by decide +kernel) ?_ ?_
 exact "1 fzjC n e h e W D X g r g q z e h D r g q q 2 u E O"
def zjE:ax ["function", "block"] ["function"] (zE DH):=by exact "6"
def Qy:Aj :=
  (zL (mC .non))
def Qz:Aj :=
  zp (zS (jE (mB (zh yc (zt yq (ze (zh zn (zd 1) (Ar 0)) zk)) (Ar 0))) (jE (mB (zh yc (zh zn (zh zn (zd 1) (Ar 1)) (Ar 0)) (As "give"))) (mB (zh yc (zh zn (zh zn (zh zn (zd 1) (Ar 1)) (Ar 1)) (Ar 0)) (As "is")))))
  (zL (zh zn (zh zn (zd 1) (Ar 1)) (Ar 1)))
  zX) (Qy)
def QA:Aj :=
  zp (zK 1 (zh zn (zd 0) (Ar 2))) (Qz)
def iH:Al:=zH 1 2 (QA)
def zjF (T:Txt w K mg):a5 P w K mg base "answer_of" 1 iH:=T.f_answer_of.ok (k:=0) zjE λ_ _ _ _ _ _ _ hr=>by
 exact "s j1 e h D r g czjE.nd s k dwV azaN 4 p n e h O r g q r azaN 4 e h e h O r g r g G dzbi 4 e h e h e h O r g r g r g G u E e h e h O r g r g K u E czbg"
def zch:ax ["functions", "names", "marks", "answers", "name", "answer"] ["functions", "names"] (zE DI):=by exact "6"
def QB:Aj :=
  (zL (zd 3))
def QC:Aj :=
  zp (w8 (zd 0) (gN 4)
  (zp (zK 5 (zt iH (ze (zh jM (zd 0) (zd 4)) zk)))
  (zS (jE (mB (zh wN (zd 5) (mC .non))) (mB (zh (yG true) (zd 4) (zd 2))))
  yf
  zX))) (QB)
def QD:Aj :=
  zp (zK 3 jH) (QC)
def QE:Aj :=
  zp (zK 2 (zt gT (ze (zd 1) zk))) (QD)
def uY:Al:=zH 2 6 (QE)
def zsE (T:Txt w K mg):a5 P w K mg base "answers_beside" 2 uY:=T.f_answers_beside.ok (k:=1) zch λ_ _ _ _ _ _ _ hr=>by
 exact "s j2 fzff n O q czch.nd s j3 cjT czch.nd s mzbv D"
 exact (ji 4 zch.nd)
 exact "s j5 fzjF n e W D b4 g q czch.nd u k dwV azaN wzeF b5 czbg dzbi izeC b4 X u S K u E b3"
def QF:ax ["atom", "steads"] ["atom", "steads"] (zE DJ):=by exact "6"
def QG:Aj :=
  (zL (zd 0))
def QH:Aj :=
  zp (zS (mB (zh yc (zh zn (zd 0) (Ar 0)) (As "of")))
  (zL (mx (zd 1) (zh zn (zd 0) (Ar 1)) (zd 0)))
  zX) (QG)
def iI:Al:=zH 2 2 (QH)
def zfk (T:Txt w K mg):a5 P w K mg base "stead_of" 1 iI:=T.f_stead_of.ok (k:=0) QF λ_ _ _ _ _ _ _ hr=>by
 exact "s k 4 e h D r g G u E"
 refine Dt (zq hr) ?_ ?_ ?_
 exact "O e h D r g D K u E D"
def QI:ax ["atoms", "steads"] ["atoms", "steads"] (zE zeR):=by exact "6"
def QJ:Aj :=
  (zL (zt jp (ze (jg (yt (zd 0)) (zt iI (ze (zd 0) (ze (zd 2) zk)))) zk)))
def qP:Al:=zH 2 2 (QJ)
def zsK (T:Txt w K mg):a5 P w K mg base "steads_of" 2 qP:=T.f_steads_of.ok (k:=1) QI λ_ _ _ _ _ _ _ hr=>by
 exact "u E t n"
 refine l9 (N:=["atoms", "steads"]) rfl (by exact "7zeR") rfl (by decide +kernel) ?_ ?_
 exact "1 D z Azfk n D n X q q"
def QK:ax ["value"] ["value"] (zE DK):=by exact "6"
def Eu:Aj :=
  (zL (As "number"))
def Ew:Aj :=
  zp (zS (mB (zt (y7 isT) (ze (zd 0) (ze (mC (.ty "dict")) zk))))
  (zL (As "record"))
  zX) (Eu)
def Ex:Aj :=
  zp (zS (mB (zt (y7 isT) (ze (zd 0) (ze (mC (.ty "tuple")) zk))))
  (zL (As "row"))
  zX) (Ew)
def Ey:Aj :=
  zp (zS (mB (zt (y7 isT) (ze (zd 0) (ze (mC (.ty "str")) zk))))
  (zL (As "word"))
  zX) (Ex)
def qQ:Al:=zH 1 1 (Ey)
def zsM (T:Txt w K mg):a5 P w K mg base "kind_of" 1 qQ:=T.f_kind_of.ok (k:=0) QK λ_ _ _ _ _ _ _ hr=>by
 exact "s k djD o n D n 0 q u E G K s k djD o n D n T q u E G K s k djD o n D n"
 exact (j3 T.b_dict BU)
 exact "q u E G K u E G"
def Ez:ax ["kinds", "values", "kind", "value"] ["kinds", "values"] (zE DL):=by exact "6"
def uZ:Aj :=
  (yZ (og (ze (zd 0) (ze (zd 1) zk))) (g2 2 3)
  (zS (jE (mB (zh ju (zd 2) (As "any"))) (mB (zh ju (zd 2) (zt qQ (ze (zd 3) zk)))))
  yf
  zX))
def kR:Al:=zH 2 4 (uZ)
def zsN (T:Txt w K mg):a5 P w K mg base "check_kinds" 2 kR:=T.f_check_kinds.ok (k:=1) Ez λ_ _ _ _ _ _ _ hr=>by
 exact "u mjR"
 refine BR T.b_zip ?_
 exact "n D n O q"
 exact (qj 2 3 rfl Ez.nd)
 exact "u k dwV azaN izbj X G dzbi izbj X fzsM n b3 q u S K"
def QL:ax ["number"] ["number"] (zE DM):=by exact "6"
def qR:Aj :=
  (zL (nM jX jX (yz nQ (Ar 1000000000000000000)) (zd 0) (Ar 1000000000000000000)))
def oO:Al:=zH 1 1 (qR)
def zsP (T:Txt w K mg):a5 P w K mg base "in_bounds" 1 oO:=T.f_in_bounds.ok (k:=0) QL λ_ _ _ _ _ _ _ hr=>by
 exact "u E"
 refine KY wX wX ?_ ?_ ?_
 refine By BC ?_
 exact (uk T.c_NUMBER_BOUND)
 exact "D"
 exact (uk T.c_NUMBER_BOUND)
def QM:ax ["number"] ["number"] (zE DN):=by exact "6"
def EA:Aj :=
  (zL (zd 0))
def qS:Aj :=
  zp (zS (lY (mB (zt oO (ze (zd 0) zk))))
  (l6 "Fault" "word" (As "wide"))
  zX) (EA)
def gU:Al:=zH 1 1 (qS)
def zfm (T:Txt w K mg):a5 P w K mg base "within_bounds" 3 gU:=T.f_within_bounds.ok (k:=2) QM λ_ _ _ _ _ _ _ hr=>by
 exact "s k dzeh djD fzsP n D q u C G K u E D"
def QN:ax ["values"] ["values"] (zE DO):=by exact "6"
def u7:Aj :=
  (zL (zt gU (ze (zh yx (zh zn (zd 0) (Ar 0)) (zh zn (zd 0) (Ar 1))) zk)))
def oP:Al:=zH 1 1 (u7)
def QO (T:Txt w K mg):a5 P w K mg base "tell_add" 4 oP:=T.f_tell_add.ok (k:=3) QN λ_ _ _ _ _ _ _ hr=>by
 exact "u E fzfm n ljG e h D r g e h D r g q"
def QP:ax ["values"] ["values"] (zE DQ):=by exact "6"
def u9:Aj :=
  (zL (zt gU (ze (zh wq (zh zn (zd 0) (Ar 0)) (zh zn (zd 0) (Ar 1))) zk)))
def oQ:Al:=zH 1 1 (u9)
def QQ (T:Txt w K mg):a5 P w K mg base "tell_sub" 4 oQ:=T.f_tell_sub.ok (k:=3) QP λ_ _ _ _ _ _ _ hr=>by
 exact "u E fzfm n lzan e h D r g e h D r g q"
def QR:ax ["values"] ["values"] (zE DS):=by exact "6"
def u_:Aj :=
  (zL (zt gU (ze (zh jq (zh zn (zd 0) (Ar 0)) (zh zn (zd 0) (Ar 1))) zk)))
def oR:Al:=zH 1 1 (u_)
def QS (T:Txt w K mg):a5 P w K mg base "tell_mul" 4 oR:=T.f_tell_mul.ok (k:=3) QR λ_ _ _ _ _ _ _ hr=>by
 exact "u E fzfm n lzaq e h D r g e h D r g q"
def QT:ax ["values"] ["values"] (zE DT):=by exact "6"
def EB:Aj :=
  (zL (zh jF (zh zn (zd 0) (Ar 0)) (zh zn (zd 0) (Ar 1))))
def va:Aj :=
  zp (zS (mB (zh yc (zh zn (zd 0) (Ar 1)) (Ar 0)))
  (l6 "Fault" "word" (As "nought"))
  zX) (EB)
def oS:Al:=zH 1 1 (va)
def QU (T:Txt w K mg):a5 P w K mg base "tell_div" 3 oS:=T.f_tell_div.ok (k:=2) QT λ_ _ _ _ _ _ _ hr=>by
 exact "s k 4 e h D r g r u C G K u E lzao e h D r g e h D r g"
def QV:ax ["values"] ["values"] (zE DU):=by exact "6"
def EC:Aj :=
  (zL (zh yH (zh zn (zd 0) (Ar 0)) (zh zn (zd 0) (Ar 1))))
def vb:Aj :=
  zp (zS (mB (zh yc (zh zn (zd 0) (Ar 1)) (Ar 0)))
  (l6 "Fault" "word" (As "nought"))
  zX) (EC)
def oU:Al:=zH 1 1 (vb)
def QW (T:Txt w K mg):a5 P w K mg base "tell_rem" 3 oU:=T.f_tell_rem.ok (k:=2) QV λ_ _ _ _ _ _ _ hr=>by
 exact "s k 4 e h D r g r u C G K u E ljL e h D r g e h D r g"
def QX:ax ["truth"] ["truth"] (zE DV):=by exact "6"
def QY:Aj :=
  (zL (Bv (mB (zd 0)) (Ar 1) (Ar 0)))
def vc:Al:=zH 1 1 (QY)
def zs3 (T:Txt w K mg):a5 P w K mg base "number_of" 1 vc:=T.f_number_of.ok (k:=0) QX λ_ _ _ _ _ _ _ hr=>by
 exact "u E Zzov djD D r r"
def QZ:ax ["values"] ["values"] (zE DW):=by exact "6"
def Q0:Aj :=
  (zL (zt vc (ze (zh jX (zh zn (zd 0) (Ar 0)) (zh zn (zd 0) (Ar 1))) zk)))
def vd:Al:=zH 1 1 (Q0)
def Q1 (T:Txt w K mg):a5 P w K mg base "tell_less" 2 vd:=T.f_tell_less.ok (k:=1) QZ λ_ _ _ _ _ _ _ hr=>by
 exact "u E fzs3 n"
 refine tN wX ?_ ?_
 exact "e h D r g e h D r g q"
def Q2:ax ["values"] ["values"] (zE DX):=by exact "6"
def ED:Aj :=
  (zL (zh wq (zh zn (zd 0) (Ar 0)) (Ar 1)))
def ve:Aj :=
  zp (zS (mB (zh jX (zh zn (zd 0) (Ar 0)) (Ar 1)))
  (l6 "Fault" "word" (As "low"))
  zX) (ED)
def oV:Al:=zH 1 1 (ve)
def Q3 (T:Txt w K mg):a5 P w K mg base "tell_down" 3 oV:=T.f_tell_down.ok (k:=2) Q2 λ_ _ _ _ _ _ _ hr=>by
 exact "s k wwX e h D r g r u C G K u E lzan e h D r g r"
def ww (y:Str):Option (Al):=if y = "tell_add" then some oP else if y = "tell_sub" then some oQ else if y = "tell_mul" then some oR else if y = "tell_div" then some oS else if y = "tell_rem" then some oU else if y = "tell_less" then some vd else if y = "tell_down" then some oV else none
def Q4 (T:Txt w K mg) {y:Str}{m:Al}(h:ww y=some m):a5 P w K mg base y 4 m:=by
 unfold ww at h
 by_cases e0:y = "tell_add"
 ·rw [zA e0] at h;cases h;rw [e0];exact (QO T).mono (by decide)
 rw [zF e0] at h
 by_cases e1:y = "tell_sub"
 ·rw [zA e1] at h;cases h;rw [e1];exact (QQ T).mono (by decide)
 rw [zF e1] at h
 by_cases e2:y = "tell_mul"
 ·rw [zA e2] at h;cases h;rw [e2];exact (QS T).mono (by decide)
 rw [zF e2] at h
 by_cases e3:y = "tell_div"
 ·rw [zA e3] at h;cases h;rw [e3];exact (QU T).mono (by decide)
 rw [zF e3] at h
 by_cases e4:y = "tell_rem"
 ·rw [zA e4] at h;cases h;rw [e4];exact (QW T).mono (by decide)
 rw [zF e4] at h
 by_cases e5:y = "tell_less"
 ·rw [zA e5] at h;cases h;rw [e5];exact (Q1 T).mono (by decide)
 rw [zF e5] at h
 by_cases e6:y = "tell_down"
 ·rw [zA e6] at h;cases h;rw [e6];exact (Q3 T).mono (by decide)
 rw [zF e6] at h
 cases h
def Q5:ax ["thing"] ["thing"] (zE DY):=by exact "6"
def EE:Aj :=
  (zL (y6 zk))
def EF:Aj :=
  zp (zS (mB (zt (y7 isT) (ze (zd 0) (ze (mC (.ty "dict")) zk))))
  yf
  zX) (EE)
def EG:Aj :=
  zp (zS (mB (zt (y7 isT) (ze (zd 0) (ze (mC (.ty "tuple")) zk))))
  yf
  zX) (EF)
def qT:Al:=zH 1 1 (EG)
def ztb (T:Txt w K mg):a5 P w K mg base "things_within" 1 qT:=T.f_things_within.ok (k:=0) Q5 λ_ _ _ _ _ _ _ hr=>by
 exact "s k djD o n D n T q u S K s k djD o n D n"
 exact (j3 T.b_dict BU)
 exact "q u S K u E djQ q"
def zdx:ax ["thing", "found", "place"] ["thing"] (zE DZ):=by exact "6"
def Q6:Aj :=
  (zL (zd 1))
def Q7:Aj :=
  zp (l5 (mB (zh jX (zd 2) (zt yq (ze (zd 1) zk))))
  (zp (j7 (w6 uf (zd 1) (zt qT (ze (zh zn (zd 1) (zd 2)) zk))))
  (n8 2 gJ (Ar 1)))) (Q6)
def Q8:Aj :=
  zp (zK 2 (Ar 0)) (Q7)
def Q9:Aj :=
  zp (zK 1 (y6 (ze (zd 0) zk))) (Q8)
def vf:Al:=zH 1 3 (Q9)
def ztg (T:Txt w K mg):a5 P w K mg base "all_within" 2 vf:=T.f_all_within.ok (k:=1) zdx λ_ _ _ _ _ _ _ hr=>by
 exact "s j1 djQ n D q czdx.nd s j2 r czdx.nd s I wwX X p n O q s dzbk azph O fztb n e h O X g q u"
 refine BO 2 BN ?_ zdx.nd
 exact "r u E O"
def Q_:ax ["value"] ["value"] (zE D1):=by exact "6"
def Ra:Aj :=
  (zL (zt yq (ze (zt vf (ze (zd 0) zk)) zk)))
def vg:Al:=zH 1 1 (Ra)
def ztj (T:Txt w K mg):a5 P w K mg base "parts" 3 vg:=T.f_parts.ok (k:=2) Q_ λ_ _ _ _ _ _ _ hr=>by
 exact "u E p n fztg n D q q"
def zfx:ax ["self", "values", "tell", "told"] ["self", "values"] (zE zeS):=by exact "6"
def EH:Aj :=
  (zL (zd 3))
def EI:Aj :=
  zp (zS (mB (zh jo (zt vg (ze (zd 3) zk)) (Ar 60)))
  yf
  zX) (EH)
def vh:Aj :=
  zp (zK 3 (ud ww (zd 2) (ze (zd 1) zk))) (EI)
def vi:Aj :=
  zp (zK 2 (zh zn (yz (iw jb jc) (yz (bj "word" insOf excOf) (zd 0))) (Ar 1))) (vh)
def vj:Aj :=
  zp (j7 (zt kR (ze (zh zn (yz (iw jb jc) (yz (bj "word" insOf excOf) (zd 0))) (Ar 0)) (ze (zd 1) zk)))) (vi)
def m_Op_answer:Al:=zH 2 4 (vj)
def Rb (T:Txt w K mg):dm P w K mg base "Op" "answer" 5 m_Op_answer:=T.m_Op_answer.ok (k:=4) zfx λ_ _ _ _ _ _ _ hr=>by
 exact "s dzbk fzsN n e h Mzer JT.d_word D r g n O q s j2 e h Mzer JT.d_word D r g czfx.nd s j3"
 refine Lk (λy m h=>Q4 T h) ?_ (hr.mono (by decide)) zR ?_
 exact "X n O q czfx.nd s k wzaP fztj n b3 q"
 exact (uk T.c_MOST_PARTS)
 exact "u S K u E b3"
def vk (c:Str):Option (Al):=if c = "Op" then some m_Op_answer else none
def ztl (T:Txt w K mg) {c:Str} {m:Al} (h:vk c=some m):dm P w K mg base c "answer" 5 m:=by
 unfold vk at h
 by_cases e0:c = "Op"
 ·rw [zA e0] at h;cases h;rw [e0];exact (Rb T).mono (by decide)
 rw [zF e0] at h
 cases h
def Rc:ax ["self", "word"] ["self", "word"] (zE zeT):=by exact "6"
def iJ:Aj :=
  (sFld "many" insOf (zd 0) (zt yq (ze (zh zn (yz (iw jb jc) (zd 1)) (Ar 0)) zk)))
def iK:Aj :=
  zp (sFld "word" insOf (zd 0) (zd 1)) (iJ)
def gW:Al:=zH 2 2 (iK)
def ztn (T:Txt w K mg):nY P w K mg base "Op" 1 gW:=T.n_Op.ok (k:=0) Rc λ_ _ _ _ _ _ _ hr=>by
 exact "s FT.d_word D O u FT.d_many D p n e h Mzer O r g q"
def Rf:ax ["word"] ["word"] (zE D2):=by exact "6"
def iL:Aj :=
  (zL (zt (cJ "Op" gW) (ze (zd 0) zk)))
def iM:Aj :=
  zp (zS (mB (yz (eJ true jb jc ze6) (zd 0)))
  yf
  zX) (iL)
def jj:Al:=zH 1 1 (iM)
def ztp (T:Txt w K mg):a5 P w K mg base "op_of" 3 jj:=T.f_op_of.ok (k:=2) Rf λ_ _ _ _ _ _ _ hr=>by
 exact "s k Mzpg D u S K u E Rztn n D q"
def Rg:ax ["self", "step", "atoms"] ["self", "step", "atoms"] (zE zcd):=by exact "6"
def Rh:Aj :=
  yf
def Ri:Aj :=
  zp (zS (mB (zt oE (ze (jg (yt (zd 2)) (zh yc (zh zn (zd 0) (Ar 0)) (As "is"))) zk)))
  (zL (zW (ze (As "is") (ze (wt "answer" vk (zt jj (ze (zh zn (zd 1) (Ar 2)) zk)) (ze (zt jp (ze (jg (yt (zd 2)) (zh zn (zd 0) (Ar 1))) zk)) zk)) zk))))
  zX) (Rh)
def Rj:Aj :=
  zp (zS (mB (zh yc (zh zn (zd 1) (Ar 0)) (As "call")))
  yf
  zX) (Ri)
def m_Folding_told_by:Al:=zH 3 3 (Rj)
def Rk (T:Txt w K mg):dm P w K mg base "Folding" "told_by" 6 m_Folding_told_by:=T.m_Folding_told_by.ok (k:=5) Rg λ_ _ _ _ _ _ _ hr=>by
 exact "s k 4 e h O r g G u S K s k djD 5 n x 1 X z HyF e h D r g G q u E P n G n yztl fztp n e h O r g q n t n x 1 X z e h D r g q q q K u S"
def qU (c:Str):Option (Al):=if c = "Folding" then some m_Folding_told_by else none
def Rl (T:Txt w K mg) {c:Str} {m:Al} (h:qU c=some m):dm P w K mg base c "told_by" 6 m:=by
 unfold qU at h
 by_cases e0:c = "Folding"
 ·rw [zA e0] at h;cases h;rw [e0];exact (Rk T).mono (by decide)
 rw [zF e0] at h
 cases h
def zjU:ax ["self", "end", "atom"] ["self", "end"] (zE zeU):=by exact "6"
def Rm:Aj :=
  yf
def Rn:Aj :=
  zp yf (Rm)
def Ro:Aj :=
  zp (zS (mB (zh yc (zh zn (zd 1) (Ar 0)) (As "give")))
  (zL (zW (ze (zW zk) (ze (zW (ze (As "give") (ze (zd 2) zk))) zk))))
  zX) (Rn)
def Rp:Aj :=
  zp (zK 2 (zt iI (ze (zh zn (zd 1) (Ar 1)) (ze (yz (bj "steads" insOf excOf) (zd 0)) zk)))) (Ro)
def Rq:Aj :=
  zp (zS (mB (zh yc (zh zn (zd 1) (Ar 0)) (As "go")))
  yf
  zX) (Rp)
def Rr:Aj :=
  zp (zS (mB (zh yc (zh zn (zd 1) (Ar 0)) (As "fail")))
  yf
  zX) (Rq)
def m_Folding_folded_end:Al:=zH 2 3 (Rr)
def Ru (T:Txt w K mg):dm P w K mg base "Folding" "folded_end" 2 m_Folding_folded_end:=T.m_Folding_folded_end.ok (k:=1) zjU λ_ _ _ _ _ _ _ hr=>by
 exact "s k 4 e h O r g G u S K s k 4 e h O r g G u S K s j2 fzfk n e h O r g n JT.d_steads D q czjU.nd s k 4 e h O r g G u E P n P q n P n G n X q q K s S u S"
def vm (c:Str):Option (Al):=if c = "Folding" then some m_Folding_folded_end else none
def ztD (T:Txt w K mg) {c:Str} {m:Al} (h:vm c=some m):dm P w K mg base c "folded_end" 2 m:=by
 unfold vm at h
 by_cases e0:c = "Folding"
 ·rw [zA e0] at h;cases h;rw [e0];exact (Ru T).mono (by decide)
 rw [zF e0] at h
 cases h
def zbD:ax ["self", "block", "left", "step", "atoms", "told", "fault", "behind"] ["self", "block"] (zE zeV):=by exact "6"
def Rv:Aj :=
  (zL (zW (ze (zh yx (zt jp (ze (zd 2) zk)) (zh zn (zd 7) (Ar 0))) (ze (zh zn (zd 7) (Ar 1)) zk))))
def Rw:Aj :=
  zp (zK 7 (wt "folded_end" vm (zd 0) (ze (zh zn (zd 1) (Ar 1)) zk))) (Rv)
def Rx:Aj :=
  zp (yZ (yt (zh zn (zd 1) (Ar 0))) (gN 3)
  (zp (zK 4 (zt qP (ze (zh zn (zd 3) (Ar 3)) (ze (yz (bj "steads" insOf excOf) (zd 0)) zk))))
  (zp (gR 5 6 "Fault" (fO "told_by" qU (zd 0) (ze (zd 3) (ze (zd 4) zk)))
  (zL (zW (ze (zt jp (ze (zd 2) zk)) (ze (zW (ze (As "fail") (ze (yz (bj "word" insOf excOf) (zd 6)) zk))) zk)))))
  (zS (mB (zh qv (zd 5) (mC .non)))
  yf
  (yT (yz (bj "steads" insOf excOf) (zd 0)) (zh zn (zd 3) (Ar 1)) (zd 5)))))) (Rw)
def Ry:Aj :=
  zp (zK 2 (y6 zk)) (Rx)
def m_Folding_folded_block:Al:=zH 2 8 (Ry)
def Rz (T:Txt w K mg):dm P w K mg base "Folding" "folded_block" 7 m_Folding_folded_block:=T.m_Folding_folded_block.ok (k:=6) zbD λ_ _ _ _ _ _ _ hr=>by
 exact "s j2 djQ q czbD.nd s mjR 1 e h O r g UzbD.nd s j4 fzsK n e h b3 r g n JT.d_steads D q czbD.nd s"
 refine Pt 5 6 T.x_Fault.tr ?_ ?_ zbD.nd
 refine LZ (λc m h=>Rl T h) ?_ (hr.mono (by decide)) ?_
 exact "D n b3 n b4 q"
 intro _
 exact "u E P n t n X q n P n G n JT.d_word b6 q q u k wzql b5 czbg u S u v B JT.d_steads D e h b3 r g b5 2 s j7 yztD D n e h O r g q czbD.nd u E P n ljG t n X q e h b7 r g n e h b7 r g q"
def vn (c:Str):Option (Al):=if c = "Folding" then some m_Folding_folded_block else none
def ztJ (T:Txt w K mg) {c:Str} {m:Al} (h:vn c=some m):dm P w K mg base c "folded_block" 7 m:=by
 unfold vn at h
 by_cases e0:c = "Folding"
 ·rw [zA e0] at h;cases h;rw [e0];exact (Rz T).mono (by decide)
 rw [zF e0] at h
 cases h
def RA:ax ["self", "answers"] ["self", "answers"] (zE zeW):=by exact "6"
def RB:Aj :=
  (sFld "steads" insOf (zd 0) jH)
def RC:Aj :=
  zp (sFld "answers" insOf (zd 0) (zd 1)) (RB)
def oW:Al:=zH 2 2 (RC)
def ztN (T:Txt w K mg):nY P w K mg base "Folding" 1 oW:=T.n_Folding.ok (k:=0) RA λ_ _ _ _ _ _ _ hr=>by
 exact "s FT.d_answers D O u FT.d_steads D cjT"
def zjV:ax ["atoms", "used", "atom"] ["atoms", "used"] (zE D5):=by exact "6"
def RD:Aj :=
  (yZ (yt (zd 0)) (gN 2)
  (zS (mB (zh yc (zh zn (zd 2) (Ar 0)) (As "of")))
  (yT (zd 1) (zh zn (zd 2) (Ar 1)) (mC (.bl true)))
  zX))
def vo:Al:=zH 2 3 (RD)
def ztP (T:Txt w K mg):a5 P w K mg base "mark_names" 1 vo:=T.f_mark_names.ok (k:=0) zjV λ_ _ _ _ _ _ _ hr=>by
 exact "u mjR 1 D VzjV.nd u k 4 e h X r g G u v B O e h X r g czbU 2 K"
def RE:ax ["line"] ["line"] (zE D6):=by exact "6"
def RF:Aj :=
  (zL (zh (yG false) (zh zn (zd 0) (Ar 0)) (zW (ze (As "let") (ze (As "call") zk)))))
def mz:Al:=zH 1 1 (RF)
def zjW (T:Txt w K mg):a5 P w K mg base "is_step" 1 mz:=T.f_is_step.ok (k:=0) RE λ_ _ _ _ _ _ _ hr=>by
 exact "u E Hzc3 e h D r g P n G n G q"
def RG:ax ["line"] ["line"] (zE D7):=by exact "6"
def RH:Aj :=
  (zL (zW (ze (zh zn (zd 0) (Ar 1)) zk)))
def RI:Aj :=
  zp (zS (mB (zh yc (zh zn (zd 0) (Ar 0)) (As "fail")))
  (zL (zW zk))
  zX) (RH)
def RJ:Aj :=
  zp (zS (mB (zh yc (zh zn (zd 0) (Ar 0)) (As "go")))
  yf
  zX) (RI)
def RK:Aj :=
  zp (zS (mB (zt mz (ze (zd 0) zk)))
  yf
  zX) (RJ)
def vp:Al:=zH 1 1 (RK)
def ztX (T:Txt w K mg):a5 P w K mg base "atoms_of" 2 vp:=T.f_atoms_of.ok (k:=1) RG λ_ _ _ _ _ _ _ hr=>by
 exact "s k djD fzjW n D q u S K s k 4 e h D r g G u S K s k 4 e h D r g G u E P q K u E P n e h D r g q"
def zdz:ax ["block", "used", "end", "second", "first", "left", "step"] ["block", "used"] (zE D8):=by exact "6"
def RL:Aj :=
  (zL (zW (ze (qK (ze (zd 5) zk)) (ze (zd 2) zk))))
def RM:Aj :=
  zp (qL (ze (zh zn (zd 0) (Ar 0)) zk) (gN 6)
  yf) (RL)
def RN:Aj :=
  zp (zK 5 (y6 zk)) (RM)
def RO:Aj :=
  zp (j7 (zt vo (ze (zt vp (ze (zd 2) zk)) (ze (zd 1) zk)))) (RN)
def RP:Aj :=
  zp (zS (mB (zh yc (zh zn (zd 2) (Ar 0)) (As "if")))
  (zp yf
  (zp yf
  yf))
  zX) (RO)
def RQ:Aj :=
  zp (zK 2 (zh zn (zd 0) (Ar 1))) (RP)
def vq:Al:=zH 2 7 (RQ)
def zt9 (T:Txt w K mg):a5 P w K mg base "swept_block" 3 vq:=T.f_swept_block.ok (k:=2) zdz λ_ _ _ _ _ _ _ hr=>by
 exact "s j2 e h D r g czdz.nd s k 4 e h X r g G s S s S u S K s dzbk fztP n fztX n X q n O q s j5 djQ q czdz.nd s"
 refine Pl (yO rfl rfl) rfl T.b_reversed ?_ ?_ ?_
 exact "n e h D r g q"
 exact (ji 6 zdz.nd)
 exact "u S u E P n"
 refine O7 rfl T.b_reversed T.b_tuple jw ?_
 exact "n b5 q n X q"
def zjX:ax ["function", "answers", "block"] ["function", "answers"] (zE D9):=by exact "6"
def RR:Aj :=
  (zL (zW (ze (zh zn (zd 0) (Ar 0)) (ze (zh zn (zd 0) (Ar 1)) (ze (zt vq (ze (zd 2) (ze jH zk))) zk)))))
def RS:Aj :=
  zp (zK 2 (wt "folded_block" vn (zt (cJ "Folding" oW) (ze (zd 1) zk)) (ze (zh zn (zd 0) (Ar 2)) zk))) (RR)
def oX:Al:=zH 2 3 (RS)
def zuc (T:Txt w K mg):a5 P w K mg base "folded" 8 oX:=T.f_folded.ok (k:=7) zjX λ_ _ _ _ _ _ _ hr=>by
 exact "s j2 yztJ RztN n O q n e h D r g q czjX.nd u E P n e h D r g n e h D r g n fzt9 n X n cjT q q"
def zaB:ax ["functions", "names", "callers", "answers", "again", "name", "answer", "caller"] ["functions", "names"] (zE D_):=by exact "6"
def RT:Aj :=
  (l5 (mB (zh jo (zt yq (ze (zd 1) zk)) (Ar 0)))
  (zp (zK 4 jH)
  (zp (yZ (yt (zd 1)) (gN 5)
  (zp (yT (zd 0) (zd 5) (zt oX (ze (zh zn (zd 0) (zd 5)) (ze (zd 3) zk))))
  (zp (zK 6 (zt iH (ze (zh zn (zd 0) (zd 5)) zk)))
  (zS (jE (mB (zh wN (zd 6) (mC .non))) (mB (zh (yG true) (zd 5) (zd 3))))
  (zp (yT (zd 3) (zd 5) (zd 6))
  (yZ (yt (zh zn (zd 2) (zd 5))) (gN 7)
  yf))
  zX))))
  (zK 1 (zt jI (ze (zd 4) zk))))))
def RU:Aj :=
  zp (zK 3 (zt uY (ze (zd 0) (ze (zd 1) zk)))) (RT)
def RV:Aj :=
  zp (zK 2 (zt uX (ze (zt qO (ze (zd 0) zk)) zk))) (RU)
def qV:Al:=zH 2 8 (RV)
def zug (T:Txt w K mg):a5 P w K mg base "fold_all" 9 qV:=T.f_fold_all.ok (k:=8) zaB λ_ _ _ _ _ _ _ hr=>by
 exact "s j2 fzsf n fzjD n D q q czaB.nd s j3 fzsE n D n O q czaB.nd u I wzaP p n O q r s j4 cjT czaB.nd s mjR 1 O"
 exact (ji 5 zaB.nd)
 exact "s v B D b5 fzuc n e h D b5 g n b3 q 2 s j6 fzjF n e h D b5 g q czaB.nd u k dwV azaN wzeF b6 czbg dzbi izeC b5 b3 s v B b3 b5 b6 2 u mjR 1 e h X b5 g"
 exact (ji 7 zaB.nd)
 exact "u S K u j1 L n b4 q czaB.nd"
def zbF:ax ["thing", "called", "before", "found", "place", "here", "there"] ["thing", "called", "before"] (zE Ea):=by exact "6"
def RW:Aj :=
  (zL (zd 3))
def RY:Aj :=
  zp (l5 (mB (zh jX (zd 4) (zt yq (ze (zd 3) zk))))
  (zp (zK 5 (zh zn (zd 3) (zd 4)))
  (zp (yZ (yt (zh zn (zd 1) (zd 5))) (gN 6)
  yf)
  (n8 4 gJ (Ar 1))))) (RW)
def RZ:Aj :=
  zp (zK 4 (Ar 0)) (RY)
def R0:Aj :=
  zp (zK 3 (y6 (ze (zd 0) zk))) (RZ)
def vt:Al:=zH 3 7 (R0)
def zul (T:Txt w K mg):a5 P w K mg base "found_from" 1 vt:=T.f_found_from.ok (k:=0) zbF λ_ _ _ _ _ _ _ hr=>by
 exact "s j3 djQ n D q czbF.nd s j4 r czbF.nd s I wwX b4 p n b3 q s j5 e h b3 b4 g czbF.nd s mjR 1 e h O b5 g"
 exact (ji 6 zbF.nd)
 exact "u S u"
 refine BO 4 BN ?_ zbF.nd
 exact "r u E b3"
def R1:ax ["functions", "main"] ["functions", "main"] (zE Eb):=by exact "6"
def R3:Aj :=
  (zL (zt vt (ze (zd 1) (ze (zt qO (ze (zd 0) zk)) (ze (uK [((zd 1),(zd 1))]) zk)))))
def qW:Al:=zH 2 2 (R3)
def zjY (T:Txt w K mg):a5 P w K mg base "met_names" 4 qW:=T.f_met_names.ok (k:=3) R1 λ_ _ _ _ _ _ _ hr=>by
 exact "u E fzul n O n fzjD n D q n"
 refine Om ?_ (by simp) (by decide)
 exact "ZzqS O O czqR q"
def zfI:ax ["functions", "main", "found", "name"] ["functions", "main"] (zE Ec):=by exact "6"
def R6:Aj :=
  (zL (zd 2))
def R7:Aj :=
  zp (yZ (yt (zt qW (ze (zd 0) (ze (zd 1) zk)))) (gN 3)
  (yT (zd 2) (zd 3) (zh zn (zd 0) (zd 3)))) (R6)
def R8:Aj :=
  zp (zK 2 jH) (R7)
def qX:Al:=zH 2 4 (R8)
def zur (T:Txt w K mg):a5 P w K mg base "kept" 5 qX:=T.f_kept.ok (k:=4) zfI λ_ _ _ _ _ _ _ hr=>by
 exact "s j2 cjT czfI.nd s mjR 1 fzjY n D n O q UzfI.nd u v B X b3 e h D b3 g 2 u E X"
def zbG:ax ["functions", "main", "aimed", "name", "aim", "lone"] ["functions", "main"] (zE Ef):=by exact "6"
def R9:Aj :=
  (zL (zd 5))
def R_:Aj :=
  zp (w8 (zd 0) (gN 3)
  (zS (jE (mB (zh ju (zd 3) (zd 1))) (mB (zh yc (mx (zd 2) (zd 3) (Ar 0)) (Ar 1))))
  yf
  zX)) (R9)
def Sa:Aj :=
  zp (zK 5 jH) (R_)
def Sb:Aj :=
  zp (w8 (zd 0) (gN 3)
  (yZ (yt (zt kQ (ze (zh zn (zh jM (zd 0) (zd 3)) (Ar 2)) zk))) (gN 4)
  yf)) (Sa)
def Sd:Aj :=
  zp (zK 2 jH) (Sb)
def vv:Al:=zH 2 6 (Sd)
def zux (T:Txt w K mg):a5 P w K mg base "lone_functions" 3 vv:=T.f_lone_functions.ok (k:=2) zbG λ_ _ _ _ _ _ _ hr=>by
 exact "s j2 cjT czbG.nd s mzbv D UzbG.nd u mjR 1 fzjC n e h e W D b3 g r g q"
 exact (ji 4 zbG.nd)
 exact "u S s j5 cjT czbG.nd s mzbv D UzbG.nd u k dwV azaN izbj b3 O dzbi 4"
 refine Dt (zq hr) ?_ ?_ ?_
 exact "X b3 r r u S K u E b5"
def Se:ax ["block"] ["block"] (zE zeX):=by exact "6"
def Sf:Aj :=
  (zL (zt jp (ze (w9 (yt (zt iG (ze (zd 0) zk))) (mB (zt mz (ze (zd 0) zk))) (zh zn (zd 0) (Ar 1))) zk)))
def mD:Al:=zH 1 1 (Sf)
def zjZ (T:Txt w K mg):a5 P w K mg base "steps_of" 2 mD:=T.f_steps_of.ok (k:=1) Se λ_ _ _ _ _ _ _ hr=>by
 exact "u E t n"
 refine Dc (N:=["block"]) rfl (by exact "8zeX") rfl (by decide +kernel) ?_ ?_ ?_
 exact "1 fzfh n D q z djD AzjW n D q z e h D r g q"
def zj0:ax ["block", "end"] ["block"] (zE Eg):=by exact "6"
def Sg:Aj :=
  (zL (Ar 0))
def Sh:Aj :=
  zp (zS (mB (zh yc (zh zn (zd 1) (Ar 0)) (As "if")))
  yf
  zX) (Sg)
def Si:Aj :=
  zp (zK 1 (zh zn (zd 0) (Ar 1))) (Sh)
def vw:Al:=zH 1 2 (Si)
def zuD (T:Txt w K mg):a5 P w K mg base "depth_of" 1 vw:=T.f_depth_of.ok (k:=0) zj0 λ_ _ _ _ _ _ _ hr=>by
 exact "s j1 e h D r g czj0.nd s k 4 e h O r g G u S K u E r"
def Sj:ax ["self", "function", "lone"] ["self", "function", "lone"] (zE zeY):=by exact "6"
def Sk:Aj :=
  (sFld "joined_names" insOf (zd 0) (y6 zk))
def Sl:Aj :=
  zp (sFld "depth" insOf (zd 0) (zt vw (ze (zh zn (zd 1) (Ar 2)) zk))) (Sk)
def Sm:Aj :=
  zp (sFld "size" insOf (zd 0) (zt yq (ze (zt iG (ze (zh zn (zd 1) (Ar 2)) zk)) zk))) (Sl)
def Sn:Aj :=
  zp (sFld "taken" insOf (zd 0) (zt gT (ze (zh yx (zh zn (zd 1) (Ar 1)) (zt mD (ze (zh zn (zd 1) (Ar 2)) zk))) zk))) (Sm)
def So:Aj :=
  zp (sFld "lone" insOf (zd 0) (zd 2)) (Sn)
def Sr:Aj :=
  zp (sFld "name" insOf (zd 0) (zh zn (zd 1) (Ar 0))) (So)
def mE:Al:=zH 3 3 (Sr)
def zuL (T:Txt w K mg):nY P w K mg base "Host" 3 mE:=T.n_Host.ok (k:=2) Sj λ_ _ _ _ _ _ _ hr=>by
 exact "s FT.d_name D e h O r g s FT.d_lone D X s FT.d_taken D fzff n ljG e h O r g fzjZ n e h O r g q q s FT.d_size D p n fzfh n e h O r g q q s FT.d_depth D fzuD n e h O r g q u FT.d_joined_names D djQ q"
def Ss:ax ["self", "end", "outer", "target"] ["self", "end", "outer"] (zE zeZ):=by exact "6"
def Su:Aj :=
  yf
def Sv:Aj :=
  zp yf (Su)
def Sw:Aj :=
  zp (zS (wJ (mB (zh ju (zh zn (zd 1) (Ar 0)) (As "go"))) (wJ (mB (zh iA (zh zn (zd 1) (Ar 1)) (yz (bj "name" insOf excOf) (zd 0)))) (mB (zh (yG true) (zh zn (zd 1) (Ar 1)) (yz (bj "lone" insOf excOf) (zd 0))))))
  (zL (mC (.bl false)))
  zX) (Sv)
def m_Host_may_join:Al:=zH 3 4 (Sw)
def Sx (T:Txt w K mg):dm P w K mg base "Host" "may_join" 1 m_Host_may_join:=T.m_Host_may_join.ok (k:=0) Ss λ_ _ _ _ _ _ _ hr=>by
 exact "s k dwV azcK izbj e h O r g G azcK izeG e h O r g JT.d_name D dzeg izeC e h O r g JT.d_lone D u E czbU K s S u S"
def qY (c:Str):Option (Al):=if c = "Host" then some m_Host_may_join else none
def zuR (T:Txt w K mg) {c:Str} {m:Al} (h:qY c=some m):dm P w K mg base c "may_join" 1 m:=by
 unfold qY at h
 by_cases e0:c = "Host"
 ·rw [zA e0] at h;cases h;rw [e0];exact (Sx T).mono (by decide)
 rw [zF e0] at h
 cases h
def zfL:ax ["self", "block", "outer", "steps", "end", "brought", "first"] ["self", "block", "outer"] (zE ze0):=by exact "6"
def Sy:Aj :=
  (zL (zW (ze (zd 3) (ze (zd 4) zk))))
def Sz:Aj :=
  zp (zS (mB (zh yc (zh zn (zd 4) (Ar 0)) (As "if")))
  (zp yf
  yf)
  zX) (Sy)
def SA:Aj :=
  zp (l5 (mB (wt "may_join" qY (zd 0) (ze (zd 4) (ze (zd 2) zk))))
  (zp yf
  (zp yf
  yf))) (Sz)
def SD:Aj :=
  zp (zK 4 (zh zn (zd 1) (Ar 1))) (SA)
def SE:Aj :=
  zp (zK 3 (zh zn (zd 1) (Ar 0))) (SD)
def m_Host_joined_block:Al:=zH 3 7 (SE)
def SF (T:Txt w K mg):dm P w K mg base "Host" "joined_block" 2 m_Host_joined_block:=T.m_Host_joined_block.ok (k:=1) zfL λ_ _ _ _ _ _ _ hr=>by
 exact "s j3 e h O r g czfL.nd s j4 e h O r g czfL.nd s I djD yzuR D n b4 n X q s S s S u S s k 4 e h b4 r g G s S u S K u E P n b3 n b4 q"
def oY (c:Str):Option (Al):=if c = "Host" then some m_Host_joined_block else none
def zuY (T:Txt w K mg) {c:Str} {m:Al} (h:oY c=some m):dm P w K mg base c "joined_block" 2 m:=by
 unfold oY at h
 by_cases e0:c = "Host"
 ·rw [zA e0] at h;cases h;rw [e0];exact (SF T).mono (by decide)
 rw [zF e0] at h
 cases h
def za2:ax ["functions", "main", "lone", "hosts", "name", "function", "host", "joined"] ["functions", "main"] (zE ze1):=by exact "6"
def SG:Aj :=
  (zL (w9 (yt (zd 3)) (mB (zh (yG false) (zd 0) (zd 1))) (zd 0)))
def SH:Aj :=
  zp (yZ (yt (zt jI (ze (zd 0) zk))) (gN 4)
  (zS (mB (zh (yG false) (zd 4) (zd 0)))
  (zp (zK 5 (zh zn (zd 0) (zd 4)))
  (zp (zK 6 (zt (cJ "Host" mE) (ze (zd 5) (ze (zd 2) zk))))
  (zp (yT (zd 0) (zd 4) (zW (ze (zd 4) (ze (zh zn (zd 5) (Ar 1)) (ze (wt "joined_block" oY (zd 6) (ze (zh zn (zd 5) (Ar 2)) (ze (Ar 0) zk))) zk)))))
  (zp (zS (mB (zh (yG false) (zd 4) (zd 2)))
  yf
  zX)
  (zp (yZ (yt (yz (bj "joined_names" insOf excOf) (zd 6))) (gN 7)
  yf)
  (zS (mB (zh jo (zt yq (ze (yz (bj "joined_names" insOf excOf) (zd 6)) zk)) (Ar 0)))
  yf
  zX))))))
  zX)) (SG)
def SI:Aj :=
  zp (zK 3 (y6 zk)) (SH)
def SJ:Aj :=
  zp (zK 2 (zt vv (ze (zd 0) (ze (zd 1) zk)))) (SI)
def qZ:Al:=zH 2 8 (SJ)
def zu3 (T:Txt w K mg):a5 P w K mg base "join_all" 5 qZ:=T.f_join_all.ok (k:=4) za2 λ_ _ _ _ _ _ _ hr=>by
 exact "s j2 fzux n D n O q cza2.nd s j3 djQ q cza2.nd s mjR 1 L n D q"
 exact (ji 4 za2.nd)
 exact "u k izc3 b4 D s j5 e h D b4 g cza2.nd s j6 RzuL n b5 n X q cza2.nd s v B D b4 P n b4 n e h b5 r g n yzuY b6 n e h b5 r g n r q q 2 s k izc3 b4 X u S K s mjR 1 JT.d_joined_names b6"
 exact (ji 7 za2.nd)
 exact "u S u k wzaP p n JT.d_joined_names b6 q r u S K K u E"
 refine OL (M:=["functions", "main", "lone", "hosts", "~name", "function", "host", "joined"]) rfl (by exact "8ze1") (by exact ⟨rfl,by show ∀p∈List.zip (["functions", "main", "lone", "hosts", "~name", "function", "host", "joined"]:Ad) (["functions", "main", "lone", "hosts", "name", "function", "host", "joined"]:Ad),p.1=p.2\/p.1∉(_:Ad);decide +kernel⟩) (by decide +kernel) ?_ ?_ ?_
 exact "1 b3 z izc3 D O z D"
def SK:ax ["step", "steads", "named", "name", "aimed"] ["step", "steads", "named"] (zE Eh):=by exact "6"
def SN:Aj :=
  yf
def SQ:Aj :=
  zp yf (SN)
def SR:Aj :=
  zp yf (SQ)
def vz:Al:=zH 3 5 (SR)
def zu8 (T:Txt w K mg):a5 P w K mg base "renamed_step" 1 vz:=T.f_renamed_step.ok (k:=0) SK λ_ _ _ _ _ _ _ hr=>by
 exact "s S s S u S"
def zj1:ax ["end", "steads", "named", "atom"] ["end", "steads", "named"] (zE Ei):=by exact "6"
def SS:Aj :=
  yf
def SU:Aj :=
  zp (zS (mB (zh yc (zh zn (zd 0) (Ar 0)) (As "give")))
  (zL (zW (ze (As "give") (ze (zd 3) zk))))
  zX) (SS)
def SV:Aj :=
  zp (zK 3 (zt iI (ze (zh zn (zd 0) (Ar 1)) (ze (zd 1) zk)))) (SU)
def SW:Aj :=
  zp (zS (mB (zh yc (zh zn (zd 0) (Ar 0)) (As "go")))
  yf
  zX) (SV)
def SX:Aj :=
  zp (zS (mB (zh yc (zh zn (zd 0) (Ar 0)) (As "fail")))
  (zL (zd 0))
  zX) (SW)
def vA:Al:=zH 3 4 (SX)
def zve (T:Txt w K mg):a5 P w K mg base "renamed_end" 2 vA:=T.f_renamed_end.ok (k:=1) zj1 λ_ _ _ _ _ _ _ hr=>by
 exact "s k 4 e h D r g G u E D K s k 4 e h D r g G u S K s j3 fzfk n e h D r g n O q czj1.nd s k 4 e h D r g G u E P n G n b3 q K u S"
def zj2:ax ["block", "steads", "named", "steps"] ["block", "steads", "named"] (zE ze2):=by exact "6"
def SY:Aj :=
  (zL (zW (ze (zd 3) (ze (zt vA (ze (zh zn (zd 0) (Ar 1)) (ze (zd 1) (ze (zd 2) zk)))) zk))))
def S0:Aj :=
  zp (zK 3 (zt jp (ze (jg (yt (zh zn (zd 0) (Ar 0))) (zt vz (ze (zd 0) (ze (zd 2) (ze (zd 3) zk))))) zk))) (SY)
def vB:Al:=zH 3 4 (S0)
def zvh (T:Txt w K mg):a5 P w K mg base "renamed_block" 3 vB:=T.f_renamed_block.ok (k:=2) zj2 λ_ _ _ _ _ _ _ hr=>by
 exact "s j3 t n"
 refine l9 (N:=["block", "steads", "named", "steps"]) rfl (by exact "7ze2") rfl (by decide +kernel) ?_ ?_
 exact "1 e h D r g z Azu8 n D n X n b3 q q czj2.nd u E P n b3 n fzve n e h D r g n O n X q q"
def zdF:ax ["function", "named", "steads", "place", "name", "params"] ["function", "named"] (zE ze3):=by exact "6"
def S3:Aj :=
  (zL (zW (ze (zh zn (zd 1) (zh zn (zd 0) (Ar 0))) (ze (zd 5) (ze (zt vB (ze (zh zn (zd 0) (Ar 2)) (ze (zd 2) (ze (zd 1) zk)))) zk)))))
def S4:Aj :=
  zp (zK 5 (zt jp (ze (jg (yt (zh zn (zd 0) (Ar 1))) (zh zn (zh zn (zd 3) (zd 0)) (Ar 1))) zk))) (S3)
def S5:Aj :=
  zp (qI (ze (zh yx (zh zn (zd 0) (Ar 1)) (zt mD (ze (zh zn (zd 0) (Ar 2)) zk))) zk) (g2 3 4)
  (yT (zd 2) (zd 4) (zW (ze (As "of") (ze (yz (gQ "v") (zd 3)) zk))))) (S4)
def S6:Aj :=
  zp (zK 2 jH) (S5)
def q8:Al:=zH 2 6 (S6)
def zvm (T:Txt w K mg):a5 P w K mg base "renamed_function" 4 q8:=T.f_renamed_function.ok (k:=3) zdF λ_ _ _ _ _ _ _ hr=>by
 exact "s j2 cjT czdF.nd s Nzrh n ljG e h D r g fzjZ n e h D r g q q"
 exact (qj 3 4 rfl zdF.nd)
 exact "u v B X b4 P n G n dziJ b3 q 2 s j5 t n"
 refine l9 (N:=["function", "named", "steads", "place", "name", "params"]) rfl (by exact "7ze3") rfl (by decide +kernel) ?_ ?_
 exact "1 e h D r g z e h e h b3 D g r g q czdF.nd u E P n e h O e h D r g g n b5 n fzvh n e h D r g n X n O q q"
def zdH:ax ["functions", "main", "met", "named", "place", "name"] ["functions", "main"] (zE ze4):=by exact "6"
def S8:Aj :=
  (zL (zt jp (ze (jg (yt (zd 2)) (zt q8 (ze (zh zn (zd 1) (zd 0)) (ze (zd 4) zk)))) zk)))
def S9:Aj :=
  zp (ma (ze (zd 2) zk) (g2 4 5)
  (yT (zd 3) (zd 5) (yz (gQ "q") (zd 4)))) (S8)
def S_:Aj :=
  zp (zK 3 jH) (S9)
def Ta:Aj :=
  zp (zK 2 (zt qW (ze (zd 0) (ze (zd 1) zk)))) (S_)
def vC:Al:=zH 2 6 (Ta)
def zvr (T:Txt w K mg):a5 P w K mg base "renamed" 5 vC:=T.f_renamed.ok (k:=4) zdH λ_ _ _ _ _ _ _ hr=>by
 exact "s j2 fzjY n D n O q czdH.nd s j3 cjT czdH.nd s Nzh1 n X q"
 exact (qj 4 5 rfl zdH.nd)
 exact "u v B b3 b5 dziJ b4 2 u E t n"
 refine Cj (M:=["functions", "main", "met", "named", "place", "~name"]) rfl (by exact "7ze4") (by exact ⟨rfl,by show ∀p∈List.zip (["functions", "main", "met", "named", "place", "~name"]:Ad) (["functions", "main", "met", "named", "place", "name"]:Ad),p.1=p.2\/p.1∉(_:Ad);decide +kernel⟩) (by decide +kernel) ?_ ?_
 exact "1 X z Azvm n e h O D g n b4 q q"
def zbJ:ax ["program", "main", "functions", "changed"] ["program"] (zE Ej):=by exact "6"
def Tb:Aj :=
  (zL (zt vC (ze (zd 2) (ze (zd 1) zk))))
def Tc:Aj :=
  zp (l5 (mB (zh jo (zt yq (ze (zd 3) zk)) (Ar 0)))
  (zp (j7 (zt qV (ze (zd 2) (ze (zd 3) zk))))
  (zp (zK 2 (zt qX (ze (zd 2) (ze (zd 1) zk))))
  (zK 3 (zt qZ (ze (zd 2) (ze (zd 1) zk))))))) (Tb)
def Td:Aj :=
  zp (zK 3 (zt jI (ze (zd 2) zk))) (Tc)
def Te:Aj :=
  zp (zK 2 (zt qM (ze (zd 0) zk))) (Td)
def Tf:Aj :=
  zp (zK 1 (zh zn (zh zn (zd 0) (Ar 0)) (Ar 0))) (Te)
def q9:Al:=zH 1 4 (Tf)
def zj3 (T:Txt w K mg):a5 P w K mg base "tidied" 10 q9:=T.f_tidied.ok (k:=9) zbJ λ_ _ _ _ _ _ _ hr=>by
 exact "s j1 e h e h D r g r g czbJ.nd s j2 fzsa n D q czbJ.nd s j3 L n X q czbJ.nd s I wzaP p n b3 q r s dzbk fzug n X n b3 q s j2 fzur n X n O q czbJ.nd u j3 fzu3 n X n O q czbJ.nd u E fzvr n X n O q"
def El:ax ["_law_script", "_law_seed", "_law_stem", "_law_params", "_law_steps_here", "_law_atom_here", "_law_program", "_law_due"] ["_law_script"] (zE zdn):=by exact "6"
def Tg:Aj :=
  (zL (kB (zt (wP 8) (ze (zt q9 (ze (zd 6) zk)) (ze (zd 7) zk))) (zh yc (zd 6) (zW (ze (zW (ze (zd 2) (ze (zd 3) (ze (zW (ze (zt jp (ze (zd 4) zk)) (ze (zW (ze (As "give") (ze (zd 5) zk))) zk))) zk)))) zk)))))
def Th:Aj :=
  zp (zS (lY (mB (zt (wP 8) (ze (zt q9 (ze (zd 6) zk)) (ze (zd 7) zk)))))
  (zL (mC (.bl false)))
  zX) (Tg)
def Ti:Aj :=
  zp (zK 7 (zW (ze (zW (ze (As "q0") (ze (kC (zW (ze (As "v0") (ze (As "v1") zk))) eV (d5 (zt yq (ze (zd 3) zk)))) (ze (zW (ze (zW zk) (ze (zt uW (ze (zd 4) (ze (zd 5) zk))) zk))) zk)))) zk))) (Th)
def EJ:Aj :=
  zp (zK 6 (zW (ze (zW (ze (zd 2) (ze (zd 3) (ze (zW (ze (zt jp (ze (zd 4) zk)) (ze (zW (ze (As "give") (ze (zd 5) zk))) zk))) zk)))) zk))) (Ti)
def Tj:Aj :=
  zp (zS (mB (zh jo (zt yq (ze (zd 4) zk)) (Ar 0)))
  (zK 5 (zW (ze (As "of") (ze (zh yx (zd 2) (zt wc (ze (zh yH (zt my (ze (zd 0) (ze (Ar 1) zk))) (zt yq (ze (zd 4) zk))) zk))) zk))))
  zX) (EJ)
def EK:Aj :=
  zp (zK 5 (zW (ze (As "is") (ze (zh yH (zd 1) (zh wW (Ar 10) (Ar 17))) zk)))) (Tj)
def EM:Aj :=
  zp (zK 4 (zt uU (ze (zd 0) (ze (zd 2) zk)))) (EK)
def vD:Aj :=
  zp (zK 3 (zt jp (ze (jg (eP (ze (zh yH (zh jF (zd 1) (Ar 78)) (Ar 3)) zk)) (zh yx (zh yx (zd 3) (As "p")) (zt wc (ze (zd 0) zk)))) zk))) (EM)
def EN:Aj :=
  zp (zK 2 (zh yx (zh zn (As "abcdefghijklmnopqrstuvwxyz") (zh yH (zd 1) (Ar 26))) (zh jq (As "x") (zh yH (zh jF (zd 1) (Ar 26)) (Ar 3))))) (vD)
def Tn:Aj :=
  zp (zK 1 (zt my (ze (zd 0) (ze (Ar 0) zk)))) (EN)
def EO:Al:=zH 1 8 (Tn)
def zvC (T:Txt w K mg) {f:Addr} {fd:FuncData} (F:dk K "law" "law" zdn f fd):a_ P w K mg base (bV P w) 11 f fd ["_law_script"] (gd K mg EO):=ql (k:=10) F El λaW A outer s H E hr =>by
 exact "s j1 fzju n D n r q 3 s j2 ljG e h G ljL O r g lzaq G ljL lzao O r r 3 s j3 t n"
 refine l9 (N:=["_law_script", "_law_seed", "_law_stem", "_law_params", "_law_steps_here", "_law_atom_here", "_law_program", "_law_due"]) rfl (by exact "7zdn") rfl (by decide +kernel) ?_ ?_
 refine LQ T.b_range ?_
 exact "n ljL lzao O r r q z ljG ljG b3 G Q n D q q 3 s j4 fzrQ n D n X q 3 s j5 P n G n ljL O lzcO r r q 3 s k wzaP p n b4 q r u j5 P n G n ljG X Q n ljL fzju n D n r q p n b4 q q q 3 K s j6 P n P n X n b3 n P n t n b4 q n P n G n b5 q q q q 3 s j7 P n P n G n Zzht P n G n G q czhr dzhs p n b3 q n P n P q n fzr0 n b4 n b5 q q q q 3 s k dzeh djD Y n fzj3 n b6 q n b7 q u E czbU K u E azcM Y n fzj3 n b6 q n b7 q dzei HyF b6 P n P n X n b3 n P n t n b4 q n P n G n b5 q q q q"
end
def ER (i j:Int) (h:0<j):yU i j=i%j:=by unfold yU;rw [zA h]
def To (i j:Int) (h:0<j):yY i j=i/j:=by unfold yY;rw [zA h]
abbrev kS:Str := "abcdefghijklmnopqrstuvwxyz"
def Old (a b:ae):Prop:=∀(n:Nat) so,a[n]?=some so->b[n]?=some so
def Old.refl (a:ae):Old a a:=λ_ _ e=>e
def Old.trans {a b c:ae}(h:Old a b) (h':Old b c):Old a c:=λn so e=>h' n so (h n so e)
def Tp {a b:ae}(h:Pre a b):Old a b:=λn so e=>h.get e
def zQ (a d:ae):Old a (a++d):=Tp (Pre.of a d)
def q_ (i:Int) (j:Nat) (h:0<j):∃b:Nat,b<j/\yU i j=b:=by
 have h1:=Int.emod_nonneg i (show (j:Int)≠0 by omega)
 have h2:=Int.emod_lt_of_pos i (show (0:Int)<j by omega)
 exact ⟨(i%j).toNat,by omega,by rw [ER _ _ (by omega)];omega⟩
def ym {st:ae}{n:Nat}{so:SO}(h:st[n]?=some so):n<st.length:=(yr.mp h).1
def vE {fe:Ai}{env:zc}(xs:An) (I:Nat->List PV->ae->Prop) (step:∀i x ys st,xs[i]?=some x->I i ys st->∃y aa,fe (some x::env) st=.ok y aa/\I (i+1) (ys++[y]) aa) :
  ∀(k i:Nat) (ys:An) (st:ae),i+k=xs.length->I i ys st->∃ig bh,cj fe env (xs.drop i) ys st=.ok (.ref bh.length) (bh++[.lst ig])/\I xs.length ig bh
 | 0,i,ys,st,hk,h=>⟨ys,st,by rw [g9 (by omega)];rfl,by rw [<-hk];exact h⟩
 | k+1,i,ys,st,hk,h=>by
  have hx:xs[i]?=some (xs[i]'(by omega)):=yu (by omega)
  obtain ⟨y,aa,e,h1⟩:=step i _ ys st hx h
  obtain ⟨ig,bh,r,h2⟩:=vE xs I step k (i+1) (ys++[y]) aa (by omega) h1
  refine ⟨ig,bh,?_,h2⟩
  rw [jK (by omega)]
  unfold cj
  rw [e]
  simp only [jY,zJ]
  exact r
abbrev S (l:List Nat):Str:=⟨l.toArray⟩
def ES (z:Str):S z.cps.toList=z:=by cases z;simp [S]
def ad (x y:Str) (h:x.length+y.length<=1000000) (st:ae):yx (.str x) (.str y) st=.ok (.str (x++y)) st:=by
 rw [Mq,zA h]
def ET {α:Type}{l:List α}{i:Nat}{x:α}(h:l[i]?=some x):l.take (i+1)=l.take i++[x]:=by
 obtain ⟨hi,e⟩:=yr.mp h
 rw [<-e,List.take_append_getElem]
def bq {α:Type}{l:List α}{k:Nat}{x:α}(h:l[k]?=some x):bI l (k:Int)=some x:=by
 have:=(yr.mp h).1
 have e:=(yr.mp h).2
 simp [bI,dw,this,e]
def iN {i j:Int}(b:Bool) (h:decide (i<j)=b) (st:ae):jX (.int i) (.int j) st=.ok (.bl b) st:=by rw [uQ,h]
def gm {i j:Int}(b:Bool) (h:decide (i=j)=b) (st:ae):yc (.int i) (.int j) st=.ok (.bl b) st:=by rw [OE,h]
def iO {i j:Int}(b:Bool) (h:decide (j<i)=b) (st:ae):jo (.int i) (.int j) st=.ok (.bl b) st:=by rw [OD,h]
def iP (j:Nat):Nat:=(kS.cps.toList[j]?).getD 0
def Tq (j:Nat) (hj:j<26) (st:ae):zn (.str kS) (.int j) st=.ok (.str ⟨#[iP j]⟩) st/\iP j∈kS.cps.toList:=by
 have hz:kS.cps.toList.length=26:=by decide +kernel
 have lt:j<kS.cps.toList.length:=by omega
 have hl:kS.length<=1000000:=by decide +kernel
 have e:kS.cps.toList[j]?=some (iP j):=by unfold iP;rw [yu lt];rfl
 refine ⟨?_,lC e⟩
 rw [Nj,MR,zA hl,bq e]
 rfl
def Tr {n i:Nat}{x:PV}(h:(nums 0 n)[i]?=some x):i<n/\x=.int (i:Int):=by
 unfold nums at h
 rw [jr] at h
 cases e:(List.range n)[i]? with
 | none=>rw [e] at h;cases h
 | some j =>
  rw [e] at h
  obtain ⟨h1,h2⟩:=yr.mp e
  rw [List.getElem_range] at h2
  rw [List.length_range] at h1
  cases h
  exact ⟨h1,by subst h2;simp⟩
def vF (n:Nat):(nums 0 n).length=n:=by simp [nums]
def Ts (m:Nat) (st:ae) (h:m<=1000):l0 [.int (m:Int)] st=.ok (.im (nums 0 m)) st:=by
 have hr:cR (m:Int)=true:=by simp [cR];omega
 rw [Nl,zA hr];simp
def Tt {fe:Ai}{fs:Ah}{env:zc}{st s0:ae}(n:Nat) (hn:n<=1000) (hf:fs env st=.ok [.int (n:Int)] s0) (I:Nat->List PV->ae->Prop) (step:∀i ys st,i<n->I i ys st->∃y aa,fe (Av i::env) st=.ok y aa/\I (i+1) (ys++[y]) aa) (h0:I 0 [] s0) :
  ∃ig bh,(jg (eP fs) fe) env st=.ok (.ref bh.length) (bh++[.lst ig])/\I n ig bh:=by
 obtain ⟨ys,s1,C,h⟩:=vE (fe:=fe) (env:=env) (nums 0 n) I (λi x ys st hx h=>by
  obtain ⟨hi,rfl⟩:=Tr hx
  exact step i ys st hi h) n 0 [] s0 (by rw [vF];omega) h0
 rw [vF] at h
 refine ⟨ys,s1,?_,h⟩
 rw [qt,Nk,hf,zJ,Ts n _ hn,zJ,uA,zA (by rw [vF];simp [lim];omega)]
 exact C
def vG {fo fi fv:Ai}{e:zc}{s s1:ae}{r:Nat}{z:Str}{x:PV}{ks:Ad}{xs:An}(hv:fv e s=.ok x s1) (ho:fo e s1=.ok (.ref r) s1) (hi:fi e s1=.ok (.str z) s1) (hr:s1[r]?=some (.dic ks xs)) (hl:ks.length<=1000) :
  yT fo fi fv e s=.ok (.nx e) (s1.set r (.dic (jx z x ks xs).1 (jx z x ks xs).2)):=by
 unfold yT
 rw [hv,zJ,ho,zJ,hi,zJ]
 show (y9 s1 r _).bind _=_
 rw [qC hr,zA (by simp [lim];omega),zJ]
def Tu (c:Nat) (m:Nat) (hm:0<m):yY (c:Int) (m:Int)=((c/m:Nat):Int):=by rw [To _ _ (by omega)];exact (Int.natCast_ediv c m).symm
def Tv (c:Nat) (m:Nat) (hm:0<m):yU (c:Int) (m:Int)=((c%m:Nat):Int):=by rw [ER _ _ (by omega)];exact (Int.natCast_emod c m).symm
def EU {st:ae}(c m:Nat) (hm:0<m) (h2:m<2 ^ 60):jF (.int (c:Int)) (.int (m:Int)) st=.ok (.int ((c/m:Nat):Int)) st:=by rw [oG _ _ (by omega) (by omega),Tu c m hm]
def rg {st:ae}(c m:Nat) (hm:0<m):yH (.int (c:Int)) (.int (m:Int)) st=.ok (.int ((c%m:Nat):Int)) st:=by rw [uP _ _ (by omega),Tv c m hm]
def Tw {α:Type}{l:List α}(nd:l.Nodup) {i j:Nat}(hi:i<l.length) (hj:j<l.length) (h:l[i]=l[j]):i=j:=by
 have p:=List.pairwise_iff_getElem.mp nd
 rcases Nat.lt_trichotomy i j with q|q|q
 ·exact absurd h (p i j hi hj q)
 ·exact q
 ·exact absurd h.symm (p j i hj hi q)
def wx {f fa fb:Ai}{e:zc}{st s1 s2 s3:ae}{x y z:PV}(h:f e st=.ok x s1) (h':fa e s1=.ok y s2) (h2:fb e s2=.ok z s3):ze f (ze fa (ze fb zk)) e st=.ok [x,y,z] s3:=qE h (zP h' h2)
def Tx {f fa fb fc:Ai}{e:zc}{st s1 s2 s3 s4:ae}{x y z w:PV}(h:f e st=.ok x s1) (h':fa e s1=.ok y s2) (h2:fb e s2=.ok z s3) (h3:fc e s3=.ok w s4):ze f (ze fa (ze fb (ze fc zk))) e st=.ok [x,y,z,w] s4:=qE h (wx h' h2 h3)
def EV {s:ae}{n:Nat}{xs:An}{y:PV}(h:s[n]?=some (.lst xs)) (hl:xs.length<=100000):wZ (.ref n) y s=.ok .non (s.set n (.lst (xs++[y]))):=by rw [Nr,yA h,zA (by simp [lim];omega)]
def yJ {x:PV}{r:An}{st:ae}:zn (.tup (x::r)) (.int 0) st=.ok x st:=by
 have e:=bq (l:=x::r) (k:=0) (x:=x) rfl
 exact (congrArg (λz=>bA z st) e).trans rfl
def yv {x y:PV}{r:An}{st:ae}:zn (.tup (x::y::r)) (.int 1) st=.ok y st:=by
 have e:=bq (l:=x::y::r) (k:=1) (x:=y) rfl
 exact (congrArg (λz=>bA z st) e).trans rfl
def jz {x y z:PV}{r:An}{st:ae}:zn (.tup (x::y::z::r)) (.int 2) st=.ok z st:=by
 have e:=bq (l:=x::y::z::r) (k:=2) (x:=z) rfl
 exact (congrArg (λz=>bA z st) e).trans rfl
def vH {x y z w:PV}{r:An}{st:ae}:zn (.tup (x::y::z::w::r)) (.int 3) st=.ok w st:=by
 have e:=bq (l:=x::y::z::w::r) (k:=3) (x:=w) rfl
 exact (congrArg (λz=>bA z st) e).trans rfl
def mF {xs ys:An}{st:ae}(h:xs.length+ys.length<=1000000):yx (.tup xs) (.tup ys) st=.ok (.tup (xs++ys)) st:=by
 show (if xs.length+ys.length<=lim then _ else _)=_
 rw [zA (by simpa [lim] using h)]
def eqs (a b:Str) (c:Bool) (h:decide (a=b)=c) (st:ae):yc (.str a) (.str b) st=.ok (.bl c) st:=by rw [OH,h]
def EW (a b:Str) (c:Bool) (h:(a==b)=c) (st:ae):iA (.str a) (.str b) st=.ok (.bl c) st:=by
 unfold iA
 rw [show eqT st 150 (.str a) (.str b)=some c by show some (a==b)=_;rw [h]]
def gh {α:Type}{l:List α}{x:α}(h:l[l.length-1]?=some x):bI l (-1)=some x:=by
 have h1:=(yr.mp h).1
 have e:dw l.length (-1)=some (l.length-1):=by
  unfold dw
  rw [zF (by decide),zA (by omega)]
  congr 1
  omega
 simp only [bI,e,Option.bind_some,h]
def n1:("let" : Str) ≠ "call" := by decide +kernel
def n2:("let" : Str) ≠ "go" := by decide +kernel
def n3:("give" : Str) ≠ "call" := by decide +kernel
def n4:("give" : Str) ≠ "go" := by decide +kernel
def n5:("fail" : Str) ≠ "call" := by decide +kernel
def n6:("fail" : Str) ≠ "go" := by decide +kernel
def n7:("go" : Str) ≠ "call" := by decide +kernel
def bN {a b:Str}(h:a≠b) (st:ae):yc (.str a) (.str b) st=.ok (.bl false) st:=eqs a b false (by simpa using h) st
def dO {a:Str}(st:ae):yc (.str a) (.str a) st=.ok (.bl true) st:=eqs a a true (by simp) st
def q0 {z y:Str}{c:Bool}{e:zc}{r:An}{s:ae}{i:Nat}(hi:e[i]?=some (some (.tup (.str z::r)))) (h:yc (.str z) (.str y) s=.ok (.bl c) s):(mB (zh yc (zh zn (zd i) (Ar 0)) (As y))) e s=.ok c s:=zY (zm (zm (zg hi) rfl yJ) rfl h)
def EX (z:Str) (c:Bool) (h:((("let" : Str)==z)||(("call" : Str)==z))=c) (st:ae):yG false (.str z) (.tup [.str "let", .str "call"]) st=.ok (.bl c) st:=by
 rw [Nq,zA ⟨rfl,rfl,by simp [dB,dep]⟩]
 simp [bo,h]
def EY {ft:Ak}{fe:Ai}{env:zc}{st:ae}{p:PV->Bool}{f:PV->PV}:∀(xs:An),(∀x∈xs,ft (some x::env) st=.ok (p x) st)->(∀x∈xs,p x=true->fe (some x::env) st=.ok (f x) st)->∀ys,cT ft fe env xs ys st=.ok (.ref st.length) (st++[.lst (ys++xs.flatMap λx=>if p x=true then [f x] else [])])
 | [],_,_,ys=>by simp [cT]
 | x::xs,h,h',ys=>by
  have ih:=EY xs (λy hy=>h y (jh _ hy)) (λy hy=>h' y (jh _ hy))
  unfold cT
  rw [h x (y3 ..)]
  simp only [jY,zJ]
  cases hp:p x with
  | true =>
   simp only [wD]
   rw [h' x (y3 ..) hp]
   simp only [jY,zJ]
   rw [ih]
   simp [hp]
  | false =>
   rw [zF (by simp),ih]
   simp [hp]
def EZ {ft:Ak}{fe:Ai}{env:zc}{st:ae}{n:Nat}{p:PV->Bool}{f:PV->PV}(xs:An) (hn:st[n]?=some (.lst xs)) (h:∀x∈xs,ft (some x::env) st=.ok (p x) st) (h':∀x∈xs,p x=true->fe (some x::env) st=.ok (f x) st):∀(k i m:Nat) (ys:An),i+k=xs.length->k<m->dg ft fe env n m i ys st=.ok (.ref st.length) (st++[.lst (ys++(xs.drop i).flatMap λx=>if p x=true then [f x] else [])])
 | 0,i,m,ys,hk,hm=>by
  obtain ⟨m,rfl⟩:∃j,m=j+1:=⟨m-1,by omega⟩
  unfold dg
  rw [yA hn,rV (by omega),g9 (by omega)]
  simp
 | k+1,i,m,ys,hk,hm=>by
  obtain ⟨m,rfl⟩:∃j,m=j+1:=⟨m-1,by omega⟩
  have hi:i<xs.length:=by omega
  have hx:xs[i]?=some (xs[i]'hi):=yu hi
  have mem:=List.getElem_mem hi
  have ih:=EZ (ft:=ft) (fe:=fe) (env:=env) xs hn h h' k (i+1) m
  unfold dg
  rw [yA hn,hx]
  simp only
  rw [h _ mem]
  simp only [jY,zJ]
  rw [jK hi,List.flatMap_cons]
  cases hp:p (xs[i]'hi) with
  | true =>
   simp only [wD]
   rw [h' _ mem hp]
   simp only [jY,zJ]
   rw [ih _ (by omega) (by omega)]
   simp
  | false =>
   rw [zF (by simp),ih _ (by omega) (by omega)]
   simp
def fz {g:PV->zc->Option zc}{body:Aj}(xs:An) (I:Nat->zc->ae->Prop) (step:∀i x e st,xs[i]?=some x->I i e st->∃e1 e2 aK,g x e=some e1/\body e1 st=.ok (.nx e2) aK/\I (i+1) e2 aK) :
  ∀(k i:Nat) (env:zc) (st:ae),i+k=xs.length->I i env st->∃b_ bh,forL g body (xs.drop i) env st=.ok (.nx b_) bh/\I xs.length b_ bh
 | 0,i,env,st,hk,h=>⟨env,st,by rw [g9 (by omega)];rfl,by rw [<-hk];exact h⟩
 | k+1,i,env,st,hk,h=>by
  have hx:xs[i]?=some (xs[i]'(by omega)):=yu (by omega)
  obtain ⟨e1,e2,aK,q1,q2,q3⟩:=step i _ env st hx h
  obtain ⟨b_,bh,r,h2⟩:=fz xs I step k (i+1) e2 aK (by omega) q3
  refine ⟨b_,bh,?_,h2⟩
  rw [jK (by omega)]
  unfold forL
  rw [q1]
  simp only
  rw [q2]
  simp only [zJ]
  exact r
def Tz {s:ae}{n k:Nat}{xs ys:An}(h:s[n]?=some (.lst xs)) (h':s[k]?=some (.lst ys)) (hl:xs.length+ys.length<=1000000):uf (.ref n) (.ref k) s=.ok .non (s.set n (.lst (xs++ys))):=by
 show yp s n _=_
 rw [yA h,yA h']
 exact zA (by simpa [lim] using hl)
section
variable {e e1:zc}{st s s1 s2:ae}{f fa fb fo fi fv:Ai}{fs:Ah}{g g':Aj}{x y v:PV}{xs ys:An}{c:Str}{ks:Ad}{zs:An}{o n:Nat}
def TC {m n:Nat}(hl:xs.length=m) (h:g (xs.map some++List.replicate (n-m) none) st=.err c ks zs s1):zH m n g xs st=.err c ks zs s1:=by
 unfold zH
 rw [zA hl,h]
 rfl
def iQ {m n:Nat}(hl:xs.length=m) (h:g (xs.map some++List.replicate (n-m) none) st=.ok (.nx e) s1):zH m n g xs st=.ok .non s1:=by
 unfold zH
 rw [zA hl,h]
 rfl
def TF (h:g e st=.err c ks zs s1):zp g g' e st=.err c ks zs s1:=by rw [uq,h,oh]
def TH (h:f e st=.err c ks zs s1):zL f e st=.err c ks zs s1:=by rw [B1,h,oh]
def TJ (h:fs e st=.err c ks zs s1):zW fs e st=.err c ks zs s1:=by rw [B0,h,oh]
def TK (h:f e st=.err c ks zs s1):ze f fs e st=.err c ks zs s1:=by rw [zev,h,oh]
def TL (h':f e st=.ok x s1) (h:fs e s1=.err c ks zs s2):ze f fs e st=.err c ks zs s2:=by rw [zev,h',zJ,h,oh]
def rh {fn:Str}(h:s[o]?=some (.ins c ks xs)) (hi:insOf c=true) (hl:(ks.zip xs).lookup fn=some x):bj fn insOf excOf (.ref o) s=.ok x s:=by
 rw [MD,qp h,zA hi,hl]
 rfl
def iR {fn:Str}(hv:fv e s=.ok x s1) (ho:fo e s1=.ok (.ref o) s1) (h:s1[o]?=some (.ins c ks xs)) (hi:insOf c=true) (hl:ks.length<1000):sFld fn insOf fo fv e s=.ok (.nx e) (s1.set o (.ins c (Mi.putK fn x ks xs).1 (Mi.putK fn x ks xs).2)):=by
 rw [MH,hv,zJ,ho,zJ]
 show (yS s1 o _).bind _=_
 rw [qp h,zA ⟨hi,hl⟩,zJ]
def mG {name:Str}{tab:Str->Option (Al)}{m:Al}{X:Res PV}(ho:fo e s=.ok (.ref o) s1) (h:s1[o]?=some (.ins c ks xs)) (hn:name∉ks) (ht:tab c=some m) (hf:fs e s1=.ok ys s2) (hm:m (.ref o::ys) s2=X):wt name tab fo fs e s=X:=by
 unfold wt
 rw [ho,zJ]
 show yS s1 o _=_
 unfold yS
 rw [h]
 simp only
 rw [zF hn,ht]
 simp only
 rw [hf,zJ,hm]
def bt (h:s[n]?=some (.lst xs)):yq [.ref n] s=.ok (.int xs.length) s:=by
 unfold yq
 simp only [h]
 rw [Mt,yA h]
def E8 (i j:Int) (b:Bool) (h:(i==j)=b) (st:ae):iA (.int i) (.int j) st=.ok (.bl b) st:=by subst h;rfl
def E9 {so:SO}(h:s[n]?=some so):s.set n so=s:=by
 obtain ⟨hn,rfl⟩:=yr.mp h
 exact List.set_getElem_self hn
end
def E_ {s:ae}{d:Nat}{ks:Ad}{xs:An}{z:Str}{b:Bool}(h:s[d]?=some (.dic ks xs)) (hb:((ks.zip xs).lookup z).isSome=b):yG false (.str z) (.ref d) s=.ok (.bl b) s:=by
 simp [yG,h,hb]
section
variable {lt:Ad}{o La T:Nat}{E:Ev}{s s':ae}
def ri (st:ae) (a b:SO):(st++[a]).set st.length b=st++[b]:=by simp
def wy {fo fi fv:Ai}{e:zc}{s s1:ae}{r:Nat}{z:Str}{x:PV}{ks cy:Ad}{xs cx:An}(hd:jx z x ks xs=(cy,cx)) (hv:fv e s=.ok x s1) (ho:fo e s1=.ok (.ref r) s1) (hi:fi e s1=.ok (.str z) s1) (hr:s1[r]?=some (.dic ks xs)) (hl:ks.length<=1000) :
  yT fo fi fv e s=.ok (.nx e) (s1.set r (.dic cy cx)):=by
 have h:=vG hv ho hi hr hl
 rw [hd] at h
 exact h
end
def TM {l:Ad}(nd:l.Nodup) {i:Nat}{z:Str}(hz:l[i]?=some z):z∉l.take i:=λhm=>by
 obtain ⟨j,hj⟩:=List.getElem?_of_mem hm
 have jl:j<i:=by have:=(yr.mp hj).1;simp at this;omega
 rw [List.getElem?_take_of_lt jl] at hj
 obtain ⟨h1,h2⟩:=yr.mp hj
 obtain ⟨h3,h4⟩:=yr.mp hz
 have:=Tw nd h1 h3 (h2.trans h4.symm)
 omega
def wz {z:Str}{x:PV}{ks:Ad}{xs:An}(h:z∉ks):jx z x ks xs=(ks++[z],xs++[x]):=by
 unfold jx
 rw [zF (by simpa using h)]
def TQ {g:PV->zc->Option zc}{body:Aj}{x:PV}{r:An}{e e1:zc}{s s1:ae}{v:PV}(h:g x e=some e1) (hb:body e1 s=.ok (.rt v) s1):forL g body (x::r) e s=.ok (.rt v) s1:=by
 unfold forL
 rw [h]
 simp only
 rw [hb,zJ]
def oZ {g:PV->zc->Option zc}{body:Aj}{x:PV}{r:An}{e e1 e2:zc}{s s1:ae}{X:Res Fl}(h:g x e=some e1) (hb:body e1 s=.ok (.nx e2) s1) (hr:forL g body r e2 s1=X):forL g body (x::r) e s=X:=by
 unfold forL
 rw [h]
 simp only
 rw [hb,zJ]
 exact hr
section
variable {f fl fu:Ai}{e:zc}{s:ae}{xs:An}{k:Nat}
variable {ms:List Fm}{k j:Nat}{m:Fm}{s:ae}
variable {g:PV->zc->Option zc}{body:Aj}{r i n:Nat}{xs:An}{x v:PV}{e e1 e2:zc}{s s1:ae}{X:Res Fl}
variable {hs:List (Str×Nat)}{x0 x1 x2 z5:Ao}{m:Fm}{z:Str}{s:ae}
variable {Fs:List FD}{F:FD}{ms:List Fm}{k j:Nat}{m:Fm}
def kT {f:Ai}{gt:PV->zc->Option zc}{body:Aj}{e:zc}{s s1:ae}{xs:An}{X:Res Fl}(h:f e s=.ok (.tup xs) s1) (hX:forL gt body xs e s1=X):yZ (yt f) gt body e s=X:=by
 rw [B3,kG,h,zJ]
 show (Res.ok (Sq.im xs) s1).bind _=_
 rw [zJ]
 exact hX
def wA {f:Ai}{gt:PV->zc->Option zc}{body:Aj}{e:zc}{s s1:ae}{r:Nat}{xs:An}{X:Res Fl}(h:f e s=.ok (.ref r) s1) (hr:s1[r]?=some (.lst xs)) (hX:forR gt body r (lim+1) 0 e s1=X):yZ (yt f) gt body e s=X:=by
 rw [B3,kG,h,zJ,ur,yA hr,zJ]
 exact hX
end
def wB {s:ae}{n:Nat}{ks:Ad}{xs:An}{z:Str}{x:PV}(h:s[n]?=some (.dic ks xs)) (hl:(ks.zip xs).lookup z=some x):zn (.ref n) (.str z) s=.ok x s:=by
 show y9 s n _=_
 unfold y9
 rw [h]
 simp only
 rw [hl]
 rfl
section
variable {e:zc}{s s1 s2:ae}{fo fi fv:Ai}{fs:Ah}{x y:PV}{xs cx ys:An}{ks cy:Ad}{c:Str}{o r:Nat}
variable {w l:Bool}{R:List Nat}{k r o La T an rn xn mn yn L M N:Nat}{s:ae}{mr:Al}
def Fb {name:Str}{tab:Str->Option (Al)}{m:Al}{X:Res PV}(ho:fo e s=.ok (.ref o) s1) (h:s1[o]?=some (.ins c ks xs)) (hn:name∉ks) (ht:tab c=some m) (hf:fs e s1=.ok ys s2) (hm:m (.ref o::ys) s2=X):fO name tab fo fs e s=X:=by
 unfold fO
 rw [ho,jY,zJ]
 show yS s1 o _=_
 unfold yS
 rw [h]
 simp only
 rw [zF hn,ht]
 simp only
 rw [hf,jY,zJ,hm]
end
section
variable {st:ae}{f b p:Nat}{B:PV}{ks:Ad}{xs:An}
variable {s s1:ae}{o T La r n q:Nat}{w:Bool}{ks:Ad}{vs:An}{e:zc}
def o8 {t:Ak}{b:Aj}{e:zc}{st s1:ae}(n:Nat) (h:t e st=.ok false s1):bB t b (n+1) e st=.ok (.nx e) s1:=by rw [B5,h,zJ,zF (by simp)]
def rj {t:Ak}{b:Aj}{e e2:zc}{st s1 s2:ae}{n:Nat}{X:Res Fl}(h:t e st=.ok true s1) (hb:b e s1=.ok (.nx e2) s2) (hX:bB t b n e2 s2=X):bB t b (n+1) e st=X:=by
 rw [B5,h,zJ,zA rfl,hb,zJ];exact hX
end
def vI {α:Type}{l:List α}{n:Nat}{x:α}(h:l[n]?=some x):n<l.length:=(yr.mp h).1
section
variable {s s1:ae}{n:Nat}{e:zc}
def rm {fe src:Ai}{xs:An}{f:PV->PV}(hs:src e s=.ok (.tup xs) s1) (hl:xs.length<=1000) (h:∀x∈xs,fe (some x::e) s1=.ok (f x) s1):jg (yt src) fe e s=.ok (.ref s1.length) (s1++[.lst (xs.map f)]):=by
 rw [qt,kG,hs,zJ]
 show fP _ _ (.im xs) s1=_
 rw [uA,zA (by simp [lim];omega)]
 have:=Ct (f:=f) xs h []
 rw [List.nil_append] at this
 exact this
def vJ {fe src:Ai}{xs Y:An}(hs:src e s=.ok (.tup xs) s1) (hl:xs.length<=1000) (hy:xs.length=Y.length) (h:∀(i:Nat) x y,xs[i]?=some x->Y[i]?=some y->fe (some x::e) s1=.ok y s1):jg (yt src) fe e s=.ok (.ref s1.length) (s1++[.lst Y]):=by
 rw [qt,kG,hs,zJ]
 show fP _ _ (.im xs) s1=_
 rw [uA,zA (by simp [lim];omega)]
 obtain ⟨ys,s2,C,h1,h2⟩:=vE (fe:=fe) (env:=e) xs (λi ys st=>ys=Y.take i/\st=s1) (λi x ys st hx ⟨h1,h2⟩=>by
  have hi:=vI hx
  have hq:Y[i]?=some (Y[i]'(by omega)):=yu _
  subst h2
  exact ⟨_,_,h i x _ hx hq,by rw [h1,ET hq],rfl⟩) xs.length 0 [] s1 (by omega) ⟨rfl,rfl⟩
 subst h2
 rw [hy,List.take_length] at h1
 subst h1
 exact C
def Fc {fe src:Ai}{ft:Ak}{xs:An}{p:PV->Bool}{f:PV->PV}(hs:src e s=.ok (.ref n) s1) (hn:s1[n]?=some (.lst xs)) (hl:xs.length<=1000) (h:∀x∈xs,ft (some x::e) s1=.ok (p x) s1) (h':∀x∈xs,p x=true->fe (some x::e) s1=.ok (f x) s1):w9 (yt src) ft fe e s=.ok (.ref s1.length) (s1++[.lst (xs.flatMap λx=>if p x=true then [f x] else [])]):=by
 rw [Dd,kG,hs,zJ,ur,yA hn,zJ]
 have:=EZ (f:=f) (env:=e) xs hn h h' xs.length 0 (lim+1) [] (by omega) (by simp [lim];omega)
 rw [List.nil_append,List.drop_zero] at this
 exact this
end
section
variable {LL:Ad}{d:Nat}{s:ae}{v a:PV}
variable {nz:Str}{ps r:Ad}{b:Int}{ss:An}{a:PV}
variable {st:ae}{f b p:Nat}{B:PV}{ks:Ad}{xs:An}
variable {s s1:ae}{o T La r n q:Nat}{w:Bool}{ks:Ad}{vs:An}{e:zc}
def Fd {s:ae}{d:Nat}{ks:Ad}{xs:An}{z:Str}{b:Bool}(h:s[d]?=some (.dic ks xs)) (hb:((ks.zip xs).lookup z).isSome=b):yG true (.str z) (.ref d) s=.ok (.bl (!b)) s:=by
 simp [yG,h,hb]
end
def gX {s:ae}{xs:An}:jp [.ref s.length] (s++[.lst xs])=.ok (.tup xs) (s++[.lst xs]):=by rw [qu,yA (yj _ _)]
def TV {fv:Ai}{e:zc}{s s1 s2:ae}{i j:Nat}{cn:Str}{ks:Ad}{xs:An}{v:PV}{bM:Aj}(hv:fv e s=.err cn ks xs s1) (hk:ks≠[]) (hs:bM (e.set j (some (.exo cn ks xs))) s1=.ok (.rt v) s2):gR i j cn fv bM e s=.ok (.rt v) s2:=by
 unfold gR
 rw [hv]
 simp only
 rw [zA ⟨trivial,hk⟩,hs,jY,zJ]
 rfl
def TY {fv:Ai}{e:zc}{s s1:ae}{i j:Nat}{cn:Str}{x:PV}{bM:Aj}(hv:fv e s=.ok x s1):gR i j cn fv bM e s=.ok (.nx (e.set i (some x))) s1:=by
 unfold gR
 rw [hv]
def Kx (ms:List Nat) (s s':ae):Prop:=∀(m:Nat) so,m∉ms->s[m]?=some so->s'[m]?=some so
def Kx.refl (ms:List Nat) (s:ae):Kx ms s s:=λ_ _ _ e=>e
def Kx.trans {ms:List Nat}{a b c:ae}(h:Kx ms a b) (h':Kx ms b c):Kx ms a c:=λm so q e=>h' m so q (h m so q e)
def Old.kx {ms:List Nat}{s s':ae}(h:Old s s'):Kx ms s s':=λm so _ e=>h m so e
def jA {ms:List Nat}{s:ae}{n:Nat}{so:SO}(h:n∈ms):Kx ms s (s.set n so):=λm x q e=>by
 have ne:n≠m:=λz=>q (z▸h)
 rw [jd ne];exact e
def mH {fo:Ai}{g:PV->zc->Option zc}{body:Aj}{e e1 e2:zc}{s s2:ae}{n:Nat}{k:Str}{x:PV}{ms:List Nat}(ho:fo e s=.ok (.ref n) s) (hn:s[n]?=some (.dic [k] [x])) (hg:g (.str k) e=some e1) (hb:body e1 (s.set n (.fdi [k] [x]))=.ok (.nx e2) s2) (o:Kx ms (s.set n (.fdi [k] [x])) s2) (hm:n∉ms) :
  ∃s3,w8 fo g body e s=.ok (.nx e2) s3/\Kx ms s s3/\∀(m:Nat) so,m≠n->s2[m]?=some so->s3[m]?=some so:=by
 have h2:s2[n]?=some (.fdi [k] [x]):=o _ _ hm (yW (ym hn))
 refine ⟨s2.set n (.dic [k] [x]),?_,λm so q e=>?_,λm so q e=>by rw [jd (yw q)];exact e⟩
 ·unfold w8
  rw [ho,zJ]
  show y9 s n _=_
  rw [qC hn]
  have F:fg g body [PV.str k] e (s.set n (.fdi [k] [x]))=.ok e2 s2:=by
   unfold fg
   rw [hg]
   simp only
   rw [hb,jY,zJ]
   rfl
  show (br (fg g body [PV.str k] e (s.set n (.fdi [k] [x])))).bind _=_
  rw [F,jY,zJ]
  unfold gO
  rw [h2]
 ·by_cases h:m=n
  ·subst h
   rw [yW (ym h2),<-hn];exact e
  ·rw [jd (yw h)]
   exact o _ _ q (by rw [jd (yw h)];exact e)
def ro {s:ae}{n:Nat}{k:Str}{x:PV}(h:s[n]?=some (.fdi [k] [x])):jM (.ref n) (.str k) s=.ok x s:=by
 unfold jM
 simp only [h]
 simp
def rp {s:ae}{n:Nat}{so gH:SO}(h:s[n]?=some so):(s.set n gH)[n]?=some gH:=yW (ym h)
abbrev gY (z:Str):PV:=.tup [.str "of", .str z]
abbrev bD (v:PV):PV:=.tup [.str "is", v]
abbrev fW (z w:Str) (as:An):PV:=.tup [.str "let", .str z,.str w,.tup as]
abbrev bP (a:PV):PV:=.tup [.str "give", a]
abbrev cz (ss:An) (e:PV):PV:=.tup [.tup ss,e]
abbrev cu (z:Str) (ps:Ad) (ss:An) (e:PV):PV:=.tup [.str z,.tup (ps.map PV.str),cz ss e]
inductive Ed:PV->Prop
 | give (a:PV):Ed (.tup [.str "give", a])
 | fail (w:Str):Ed (.tup [.str "fail", .str w])
def kU (v:PV):Prop:=∃z w as,v=fW z w as
def vK:("give" : Str) ≠ "if" := by decide +kernel
def vL:("fail" : Str) ≠ "if" := by decide +kernel
section
variable {ss:An}{e a:PV}{s:ae}{z w:Str}{as:An}
def vM (hl:ss.length<=1000) (h:Ed e) (s:ae):iG [cz ss e] s=.ok (.tup (ss++[e])) s:=by
 cases h with
 | give a=>exact zV rfl (zw (zO (zm (zg rfl) rfl yv)) (zw (zO (zm (zm (zg rfl) rfl yJ) (yl (zI (zg rfl)) (by simp)) (mF (xs:=ss) (ys:=[.tup [.str "give", a]]) (by simp;omega)))) (zw (yi (q0 rfl (bN vK _))) (zU (zg rfl)))))
 | fail w=>exact zV rfl (zw (zO (zm (zg rfl) rfl yv)) (zw (zO (zm (zm (zg rfl) rfl yJ) (yl (zI (zg rfl)) (by simp)) (mF (xs:=ss) (ys:=[.tup [.str "fail", .str w]]) (by simp;omega)))) (zw (yi (q0 rfl (bN vL _))) (zU (zg rfl)))))
def Fe (h:kU e\/Ed e):qN [e] s=.ok .non s:=by
 rcases h with ⟨z,w,as,rfl⟩|h
 ·exact zV rfl (zw (yi (q0 rfl (bN n1 _))) (zw (yi (q0 rfl (bN n2 _))) (zU rfl)))
 ·cases h with
  | give a=>exact zV rfl (zw (yi (q0 rfl (bN n3 _))) (zw (yi (q0 rfl (bN n4 _))) (zU rfl)))
  | fail w=>exact zV rfl (zw (yi (q0 rfl (bN n5 _))) (zw (yi (q0 rfl (bN n6 _))) (zU rfl)))
def vO (h:Ed e):mz [e] s=.ok (.bl false) s:=by
 cases h with
 | give a=>exact zV rfl (zU (zm (zm (zg rfl) rfl yJ) (yl (zP rfl rfl) (by simp)) (EX "give" false (by decide +kernel) _)))
 | fail w=>exact zV rfl (zU (zm (zm (zg rfl) rfl yJ) (yl (zP rfl rfl) (by simp)) (EX "fail" false (by decide +kernel) _)))
def Ff (h:∀v∈ss,kU v) (he:Ed e) (hl:ss.length<=900) (s:ae):∃s1,kQ [cz ss e] s=.ok (.tup []) s1/\Old s s1:=by
 have C:=rm (e:=[some (cz ss e),none]) (fe:=zt qN (ze (zd 0) zk)) (f:=λ_=>.non) (s:=s) (s1:=s) (src:=zt iG (ze (zd 0) zk)) (zD (zI (zg rfl)) (vM (by omega) he s)) (by simp;omega) (λx hx=>by
  rcases mK.mp hx with q|q
  ·exact zD (zI (zg rfl)) (Fe (.inl (h x q)))
  ·rw [List.mem_singleton.mp q]
   exact zD (zI (zg rfl)) (Fe (.inr he)))
 have D:=Fc (e:=[some (cz ss e),Au s.length]) (src:=zd 1) (ft:=mB (zh wN (zd 0) (mC .non))) (fe:=zd 0) (p:=λ_=>false) (f:=id) (n:=s.length) (zg rfl) (yj s (.lst ((ss++[e]).map λ_=>PV.non))) (by simp;omega) (λx hx=>by
  obtain ⟨_,_,rfl⟩:=wE.mp hx
  exact zY (zm (zg rfl) rfl rfl)) (λx hx q=>by cases q)
 have e0:(((ss++[e]).map λ_=>PV.non).flatMap λx=>if false=true then [id x] else [])=([]:An):=by simp
 rw [e0] at D
 exact ⟨_,zV rfl (zw (zO C) (zU (zD (zI D) gX))),(zQ _ _).trans (zQ _ _)⟩
end
def o9 {g:PV->zc->Option zc}{body:Aj}{r n:Nat}{e:zc}{s:ae}(h:s[r]?=some (.lst [])):forR g body r (n+1) 0 e s=.ok (.nx e) s:=by
 unfold forR
 rw [yA h]
 rfl
def rq {g:PV->zc->Option zc}{body:Aj}{r:Nat}{x:PV}{e e1 e2:zc}{s s1:ae}(h:s[r]?=some (.lst [x])) (hg:g x e=some e1) (hb:body e1 s=.ok (.nx e2) s1) (h1:s1[r]?=some (.lst [x])):forR g body r (lim+1) 0 e s=.ok (.nx e2) s1:=by
 show forR g body r (999999+2) 0 e s=_
 unfold forR
 rw [yA h]
 simp only [List.getElem?_cons_zero]
 rw [hg]
 simp only
 rw [hb,zJ]
 show forR g body r (999999+1) 1 e2 s1=_
 unfold forR
 rw [yA h1]
 rfl
def rA {s:ae}{n:Nat}{ks:Ad}{xs:An}(h:s[n]?=some (.dic ks xs)):jI [.ref n] s=.ok (.ref s.length) (s++[.lst (ks.map PV.str)]):=by
 unfold jI
 simp only [h]
section
variable {s:ae}{r F A L C:Nat}{z:Str}{ps:Ad}{ss:An}{e:PV}
def TZ (h:s[r]?=some (.lst [])):gT [.ref r] s=.ok (.ref s.length) (s++[.dic [] []]):=by
 have h':(s++[SO.dic [] []])[r]?=some (.lst []):=zQ _ _ _ _ h
 exact zV rfl (zw (zO rfl) (zw (wA (zg rfl) h' (o9 h')) (zU (zg rfl))))
def T4 (h:s[r]?=some (.lst [.str z])):gT [.ref r] s=.ok (.ref s.length) (s++[.dic [z] [.bl true]]):=by
 have h':(s++[SO.dic [] []])[r]?=some (.lst [.str z]):=zQ _ _ _ _ h
 have lr:=ym h
 have D:=wy (wz (z:=z) (x:=.bl true) (ks:=[]) (xs:=[]) (by simp)) (fo:=zd 1) (fi:=zd 2) (fv:=mC (.bl true)) (e:=[Au r,Au s.length,some (.str z)]) (s:=s++[.dic [] []]) rfl (zg rfl) (zg rfl) (yj _ _) (by simp)
 rw [ri] at D
 exact zV rfl (zw (zO rfl) (zw (wA (zg rfl) h' (rq h' rfl D (zQ _ _ _ _ h))) (zU (zg rfl))))
structure Fu (z:Str) (ps:Ad) (ss:An) (e:PV):Prop where
 ls:∀v∈ss,kU v
 ed:Ed e
 s9:ss.length<=900
def Fg (U:Fu z ps ss e) (hF:s[F]?=some (.dic [z] [cu z ps ss e])):∃A L s1,qO [.ref F] s=.ok (.ref A) s1/\s1[A]?=some (.dic [z] [.ref L])/\s1[L]?=some (.lst [])/\Old s s1:=by
 let A:=s.length
 let t:=s++[SO.dic [] []]
 have lF:=ym hF
 have tF:t[F]?=some (.dic [z] [cu z ps ss e]):=zQ _ _ _ _ hF
 let t1:=t.set F (.fdi [z] [cu z ps ss e])
 have f1:t1[F]?=some (.fdi [z] [cu z ps ss e]):=rp tF
 have a1:t1[A]?=some (.dic [] []):=by show (t.set F _)[s.length]?=_;rw [jd (by omega)];exact yj _ _
 obtain ⟨t2,E2,o2⟩:=Ff U.ls U.ed U.s9 t1
 have C:=rm (e:=[Au F,Au A,some (.str z)]) (fe:=zh zn (zd 0) (Ar 0)) (src:=zt kQ (ze (zh zn (zh jM (zd 0) (zd 2)) (Ar 2)) zk)) (f:=id) (s:=t1) (xs:=[]) (zD (zI (zm (zm (zg rfl) (zg rfl) (ro f1)) rfl jz)) E2) (by simp) (λx hx=>nomatch hx)
 let t3:=t2++[SO.lst []]
 let t4:=t3++[SO.dic [] []]
 let t5:=t4++[SO.lst []]
 have o5:Old t1 t5:=o2.trans ((zQ _ _).trans ((zQ _ _).trans (zQ _ _)))
 have MK:gT [.ref t2.length] t3=.ok (.ref t3.length) t4:=TZ (yj _ _)
 have LD:jI [.ref t3.length] t4=.ok (.ref t4.length) t5:=rA (yj _ _)
 have D:=wy (wz (z:=z) (by simp)) (fo:=zd 1) (fi:=zd 2) (fv:=zt jI (ze (zt gT (ze (jg (yt (zt kQ (ze (zh zn (zh jM (zd 0) (zd 2)) (Ar 2)) zk))) (zh zn (zd 0) (Ar 0))) zk)) zk)) (e:=[Au F,Au A,some (.str z)]) (s:=t1) (s1:=t5) (x:=.ref t4.length) (zD (zI (zD (zI C) MK)) LD) (zg rfl) (zg rfl) (o5 _ _ a1) (by simp)
 have nA:F∉[A]:=by simp;show F≠s.length;omega
 have la:A<t4.length:=ym (zQ t3 _ _ _ (zQ t2 _ _ _ (o2 _ _ a1)))
 obtain ⟨t6,E6,k6,h6⟩:=mH (fo:=zd 0) (g:=gN 2) (e:=[Au F,Au A,none]) (zg rfl) tF rfl D (ms:=[A]) (o5.kx.trans (jA (by simp))) nA
 refine ⟨A,t4.length,t6,zV rfl (zw (zO rfl) (zw E6 (zU (zg rfl)))),h6 _ _ (by show s.length≠F;omega) (yW (ym (o5 _ _ a1))),h6 _ _ (by show t4.length≠F;have:=ym (o5 _ _ f1);have:F<s.length:=lF;omega) ?_,λm so q=>k6 _ _ (by simp;show m≠s.length;have:=ym q;omega) (zQ _ _ _ _ q)⟩
 rw [jd (by omega)]
 exact yj _ _
def T5 (hA:s[A]?=some (.dic [z] [.ref L])) (hL:s[L]?=some (.lst [])):∃C K s1,uX [.ref A] s=.ok (.ref C) s1/\s1[C]?=some (.dic [z] [.ref K])/\s1[K]?=some (.lst [])/\Old s s1:=by
 let C:=s.length
 let t:=s++[SO.dic [] []]
 have lA:=ym hA
 have lL:=ym hL
 have tA:t[A]?=some (.dic [z] [.ref L]):=zQ _ _ _ _ hA
 have ne:A≠L:=λq=>by subst q;rw [hA] at hL;cases hL
 let t1:=t.set A (.fdi [z] [.ref L])
 have c1:t1[C]?=some (.dic [] []):=by show (t.set A _)[s.length]?=_;rw [jd (by omega)];exact yj _ _
 let t2:=t1++[SO.lst []]
 have o2:Old t1 t2:=zQ _ _
 have D:=wy (wz (z:=z) (by simp)) (fo:=zd 1) (fi:=zd 2) (fv:=y6 zk) (e:=[Au A,Au C,some (.str z),none]) (s:=t1) (s1:=t2) (x:=.ref t1.length) (wf we (by simp)) (zg rfl) (zg rfl) (o2 _ _ c1) (by simp)
 have nC:A∉[C]:=by simp;show A≠s.length;omega
 obtain ⟨t3,E3,k3,h3⟩:=mH (fo:=zd 0) (g:=gN 2) (e:=[Au A,Au C,none,none]) (zg rfl) tA rfl D (ms:=[C]) (o2.kx.trans (jA (by simp))) nC
 have Wz:A<t1.length:=by simp [t1,t];omega
 have WB:C<t1.length:=ym c1
 have c3:t3[C]?=some (.dic [z] [.ref t1.length]):=h3 _ _ (by show s.length≠A;omega) (yW (ym (o2 _ _ c1)))
 have Dp:t3[t1.length]?=some (.lst []):=h3 _ _ (by omega) (by rw [jd (by omega)];exact yj _ _)
 have A3:t3[A]?=some (.dic [z] [.ref L]):=k3 _ _ nC tA
 have L3:t3[L]?=some (.lst []):=k3 _ _ (by simp;show L≠s.length;omega) (zQ _ _ _ _ hL)
 have f4:(t3.set A (.fdi [z] [.ref L]))[A]?=some (.fdi [z] [.ref L]):=rp A3
 have L4:(t3.set A (.fdi [z] [.ref L]))[L]?=some (.lst []):=by rw [jd ne];exact L3
 have B4:(yZ (yt (zh jM (zd 0) (zd 2))) (gN 3) yf) [Au A,Au C,some (.str z),none] (t3.set A (.fdi [z] [.ref L]))=.ok (.nx [Au A,Au C,some (.str z),none]) (t3.set A (.fdi [z] [.ref L])):=wA (zm (zg rfl) (zg rfl) (ro f4)) L4 (o9 L4)
 obtain ⟨t5,E5,k5,h5⟩:=mH (fo:=zd 0) (g:=gN 2) (e:=[Au A,Au C,some (.str z),none]) (zg rfl) A3 rfl B4 (ms:=[]) (Kx.refl _ _) (by simp)
 have o5:Old t3 t5:=λm so q=>k5 _ _ (by simp) q
 exact ⟨C,t1.length,t5,zV rfl (zw (zO rfl) (zw E3 (zw E5 (zU (zg rfl))))),o5 _ _ c3,o5 _ _ Dp,λm so q=>o5 _ _ (k3 _ _ (by simp;show m≠s.length;have:=ym q;omega) (zQ _ _ _ _ q))⟩
def o_ (v:PV) (s:ae):wN v .non s=.ok (.bl (!cH v)) s:=by cases v<;>rfl
def T6 {d:Nat}(h:s[d]?=some (.dic [z] [.bl true])):yG true (.str z) (.ref d) s=.ok (.bl false) s:=Fd (b:=true) h (by simp)
def T7 {mI:PV}(hF:s[F]?=some (.dic [z] [cu z ps ss e])) (hn:s[r]?=some (.lst [.str z])) (ha:∀s,iH [cu z ps ss e] s=.ok mI s):∃A s1,uY [.ref F,.ref r] s=.ok (.ref A) s1/\s1[A]?=some (.dic [] [])/\Old s s1/\s.length<=A:=by
 let t:=s++[SO.dic [z] [.bl true]]
 let t1:=t++[SO.dic [] []]
 have o1:Old s t1:=(zQ _ _).trans (zQ _ _)
 have lF:=ym hF
 have tF:=o1 _ _ hF
 let t2:=t1.set F (.fdi [z] [cu z ps ss e])
 have f2:t2[F]?=some (.fdi [z] [cu z ps ss e]):=rp tF
 have m2:t2[s.length]?=some (.dic [z] [.bl true]):=by show (t1.set F _)[s.length]?=_;rw [jd (by omega)];exact zQ _ _ _ _ (yj _ _)
 have TT:(jE (mB (zh wN (zd 5) (mC .non))) (mB (zh (yG true) (zd 4) (zd 2)))) [Au F,Au r,Au s.length,Au t.length,some (.str z),some mI] t2=.ok false t2:=by
  have I:=o_ mI t2
  cases hq:cH mI with
  | true=>rw [hq] at I;exact mj (zY (zm (zg rfl) rfl I))
  | false=>rw [hq] at I;exact wv (zY (zm (zg rfl) rfl I)) (zY (zm (zg rfl) (zg rfl) (T6 m2)))
 have B:(zp (zK 5 (zt iH (ze (zh jM (zd 0) (zd 4)) zk))) (zS (jE (mB (zh wN (zd 5) (mC .non))) (mB (zh (yG true) (zd 4) (zd 2)))) yf zX)) [Au F,Au r,Au s.length,Au t.length,some (.str z),none] t2=.ok (.nx [Au F,Au r,Au s.length,Au t.length,some (.str z),some mI]) t2:=zw (zO (zD (zI (zm (zg rfl) (zg rfl) (ro f2))) (ha t2))) (yi TT)
 obtain ⟨t3,E3,k3,h3⟩:=mH (fo:=zd 0) (g:=gN 4) (e:=[Au F,Au r,Au s.length,Au t.length,none,none]) (zg rfl) tF rfl B (ms:=[]) (Kx.refl _ _) (by simp)
 have o3:Old t1 t3:=λm so q=>k3 _ _ (by simp) q
 exact ⟨t.length,t3,zV rfl (zw (zO (zD (zI (zg rfl)) (T4 hn))) (zw (zO rfl) (zw E3 (zU (zg rfl))))),o3 _ _ (yj _ _),o1.trans o3,by simp [t]⟩
end
abbrev Bd (i:Int):Prop := -1000000000000000000<i/\i<1000000000000000000
def Fh {i j q r:Int}(hj:1<=j) (e:j*q+r=i) (h0:0<=r) (h1:r<j) (h:Bd i):Bd q:=by
 constructor
 ·rcases (by omega : -1000000000000000000<q\/q <= -1000000000000000000) with z|z
  ·exact z
  ·have:=Int.mul_le_mul_of_nonpos_right hj (show q+1<=0 by omega)
   rw [Int.mul_add,Int.mul_one,Int.one_mul] at this
   have:=h.1
   omega
 ·rcases (by omega:q<1000000000000000000\/1000000000000000000<=q) with z|z
  ·exact z
  ·have:=Int.mul_le_mul_of_nonneg_right hj (show 0<=q by omega)
   rw [Int.one_mul] at this
   have:=h.2
   omega
def Fi (n m:Int) (h:0<m):0<=yU n m/\yU n m<m/\yY n m*m+yU n m=n:=by
 unfold yU yY
 rw [zA h,zA h]
 refine ⟨Int.emod_nonneg _ (by omega),Int.emod_lt_of_pos _ h,?_⟩
 rw [Int.mul_comm]
 exact Int.mul_ediv_add_emod n m
def Fj (n m:Int) (h:m<0):m<yU n m/\yU n m<=0/\yY n m*m+yU n m=n:=by
 have e:yY n m*m+yU n m=n:=by
  rw [qc,BB,Int.mul_comm]
  exact Int.mul_fdiv_add_fmod n m
 refine ⟨?_,?_,e⟩
 ·rw [qc,Int.fmod_eq_emod]
  have h1:=Int.emod_nonneg n (show m≠0 by omega)
  split
  ·omega
  ·rename_i hd
   have:n%m≠0:=λz=>hd (.inr (Int.dvd_of_emod_eq_zero z))
   omega
 ·rw [qc,Int.fmod_eq_emod]
  have h2:n%m < -m:=by
   have:=Int.emod_lt_of_pos n (show 0 < -m by omega)
   rwa [Int.emod_neg] at this
  split
  ·rename_i hd
   rcases hd with hd|hd
   ·omega
   ·rw [Int.emod_eq_zero_of_dvd hd];omega
  ·omega
def T8 {i j:Int}(h:Bd i) (hj:j≠0):Bd (yY i j):=by
 rcases (by omega:j<0\/0<j) with hn|hp
 ·obtain ⟨m1,m2,e⟩:=Fj i j hn
  exact Fh (i := -i) (j := -j) (q:=yY i j) (r := -(yU i j)) (by omega) (by rw [Int.neg_mul,Int.mul_comm];omega) (by omega) (by omega) ⟨by have:=h.2;omega,by have:=h.1;omega⟩
 ·obtain ⟨m1,m2,e⟩:=Fi i j hp
  exact Fh (i:=i) (j:=j) (q:=yY i j) (r:=yU i j) (by omega) (by rw [Int.mul_comm];exact e) m1 m2 h
def T9 {i j:Int}(h:Bd j) (hj:j≠0):Bd (yU i j):=by
 have h1:=h.1
 have h2:=h.2
 rcases (by omega:j<0\/0<j) with hn|hp
 ·obtain ⟨m1,m2,e⟩:=Fj i j hn
  exact ⟨by omega,by omega⟩
 ·obtain ⟨m1,m2,e⟩:=Fi i j hp
  exact ⟨by omega,by omega⟩
section
variable {st:ae}{f b p:Nat}{B:PV}{ks:Ad}{xs:An}
variable {s s1:ae}{o T La r n q:Nat}{w:Bool}{ks:Ad}{vs:An}{e:zc}
def wg {α:Type}(x:α) (r:List α):bI (x::r) 0=some x:=bq (k:=0) rfl
def wj {α:Type}(x y:α) (r:List α):bI (x::y::r) 1=some y:=bq (k:=1) rfl
def i3:insOf "Op" = true:=by simp [insOf]
def Fn (n:Int) (st:ae):qQ [.int n] st=.ok (.str "number") st:=by
 have e:∀t,y7 isT [.int n,.ty t] st=eI (f_ "int" t) st:=λ_=>rfl
 have t1:f_ "int" "str" = some false:=rfl
 have t2:f_ "int" "tuple" = some false:=rfl
 have t3:f_ "int" "dict" = some false:=rfl
 simp [qQ,zH,Ey,Ex,Ew,Eu,e,t1,t2,t3,eI]
def T_ (n:Int) (st:ae):qT [.int n] st=.ok (.ref st.length) (st++[.lst []]):=by
 have e:∀t,y7 isT [.int n,.ty t] st=eI (f_ "int" t) st:=λ_=>rfl
 have t2:f_ "int" "tuple" = some false:=rfl
 have t3:f_ "int" "dict" = some false:=rfl
 simp [qT,zH,EG,EF,EE,e,t2,t3,eI]
def Ua (n:Int) (st:ae):vf [.int n] st=.ok (.ref st.length) (st++[.lst [.int n],.lst []]):=by
 let t0:=st++[SO.lst [.int n]]
 have h0:t0[st.length]?=some (.lst [.int n]):=yj _ _
 let t1:=t0++[SO.lst []]
 have h1:t1[st.length]?=some (.lst [.int n]):=zQ _ _ _ _ h0
 have X:=Tz h1 (show t1[t0.length]?=some (.lst []) from yj _ _) (by simp)
 rw [List.append_nil,E9 h1] at X
 have I0:zn (.ref st.length) (.int 0) t0=.ok (.int n) t0:=by
  show yp t0 st.length _=_
  rw [yA h0]
  rfl
 have et:t1=st++[.lst [.int n],.lst []]:=by simp [t1,t0]
 have L0:yq [.ref st.length] t0=.ok (.int 1) t0:=bt h0
 have L1:yq [.ref st.length] t1=.ok (.int 1) t1:=bt h1
 rw [<-et]
 exact zV rfl (zw (zO (wf (zI (zg rfl)) (by simp))) (zw (zO rfl) (zw (rj (n:=999999) (zY (zm (zg rfl) (zD (zI (zg rfl)) L0) (iN true (by decide) _))) (zw (oF (uO (zg rfl) h0 (zD (zI (zm (zg rfl) (zg rfl) I0)) (T_ n t0)) X)) rfl) (o8 999998 (zY (zm (zg rfl) (zD (zI (zg rfl)) L1) (iN false (by decide) _))))) (zU (zg rfl)))))
def Ub (n:Int) (st:ae):vg [.int n] st=.ok (.int 1) (st++[.lst [.int n],.lst []]):=by
 have L:yq [.ref st.length] (st++[.lst [.int n],.lst []])=.ok (.int 1) (st++[.lst [.int n],.lst []]):=bt (xs:=[.int n]) (by simp)
 exact zV rfl (zU (zD (zI (zD (zI (zg rfl)) (Ua n st))) L))
end
section
variable {lt:Ad}{o La T q n:Nat}{E:Ev}{s s1 s':ae}{a b v:PV}{x:Ao}{e:zc}
variable {lt:Ad}{o La T q n:Nat}{E:Ev}{s s1 s':ae}{as bs vs:An}{xs:List (Ao)}{e:zc}
abbrev dP (w:Str) (k:Int):SO:=.ins "Op" ["word", "many"] [.str w,.int k]
end
def vP (w:Str) (xs:An) (v:PV):Prop:=∃k,(∀s,jj [.str w] s=.ok (.ref s.length) (s++[dP w k]))/\∀s o,s[o]?=some (dP w k)->∃s1,m_Op_answer [.ref o,.tup xs] s=.ok v s1/\Old s s1
def vQ (w:Str) (xs:An) (z:Str):Prop:=∃k,(∀s,jj [.str w] s=.ok (.ref s.length) (s++[dP w k]))/\∀s o,s[o]?=some (dP w k)->∃s1,m_Op_answer [.ref o,.tup xs] s=.err "Fault" ["word"] [.str z] s1/\Old s s1
def mJ (x y:Int) (st:ae):kR [.tup [.str "number", .str "number"],.tup [.int x,.int y]] st=.ok .non st:=by
 simp [kR,zH,uZ,jS,forL,Fn]
def Uc (x:Int) (st:ae):kR [.tup [.str "number"],.tup [.int x]] st=.ok .non st:=by
 simp [kR,zH,uZ,jS,forL,Fn]
def vR (n:Int) (h:n.natAbs<10 ^ 18) (st:ae):gU [.int n] st=.ok (.int n) st:=by
 have h1:(-1000000000000000000:Int)<n:=by omega
 have h2:n<(1000000000000000000:Int):=by omega
 simp [gU,zH,qS,EA,oO,qR,h1,h2]
def vS (n:Int) (h:¬n.natAbs<10 ^ 18) (st:ae):gU [.int n] st=.err "Fault" ["word"] [.str "wide"] st:=by
 by_cases h1:(-1000000000000000000:Int)<n
 ·have h2:¬n<(1000000000000000000:Int):=by omega
  simp [gU,zH,qS,oO,qR,h1,h2]
 ·simp [gU,zH,qS,oO,qR,h1]
def nb (b:Bool):Int:=if b then 1 else 0
def Ud (b:Bool) (st:ae):vc [.bl b] st=.ok (.int (nb b)) st:=by
 cases b<;>kernel_rfl
def cV:Nat->Str
 | 0 => "add"
 | 1 => "sub"
 | 2 => "mul"
 | 3 => "div"
 | 4 => "rem"
 | 5 => "less"
 | _ => "down"
def eX (n:Int):Sum Int Str:=if n.natAbs<10 ^ 18 then .inl n else .inr "wide"
def tl:Nat->Int->Int->Sum Int Str
 | 0,x,y=>eX (x+y)
 | 1,x,y=>eX (x-y)
 | 2,x,y=>eX (x*y)
 | 3,x,y=>if y=0 then .inr "nought" else .inl (yY x y)
 | 4,x,y=>if y=0 then .inr "nought" else .inl (yU x y)
 | 5,x,y=>.inl (nb (decide (x<y)))
 | _,x,_=>if x<1 then .inr "low" else .inl (x-1)
def arg (k:Nat) (a b:PV):An:=if k=6 then [a] else [a,b]
def gZ (w:Str) (xs:An):Sum Int Str->Prop
 | .inl n=>vP w xs (.int n)
 | .inr z=>vQ w xs z
def fX (m:Al) (xs:An):Sum Int Str->Prop
 | .inl n=>∀st,m [.tup xs] st=.ok (.int n) st
 | .inr z=>∀st,m [.tup xs] st=.err "Fault" ["word"] [.str z] st
def kW {w f:Str}{ks:Ad}{m:Al}{xs:An}{r:Sum Int Str}(ho:∀st,jj [.str w] st=.ok (.ref st.length) (st++[dP w ks.length])) (hl:(jb.zip jc).lookup w=some (.tup [.tup (ks.map PV.str),.fn f])) (ht:ww f=some m) (hc:∀st,kR [.tup (ks.map PV.str),.tup xs] st=.ok .non st) (h:fX m xs r):gZ w xs r:=by
 generalize hK:PV.tup (ks.map PV.str)=K1 at hl hc
 cases r with
 | inl n =>
  refine ⟨_,ho,λs o h'=>⟨s++[.lst [.int n],.lst []],?_,zQ _ _⟩⟩
  have h:∀st,m [.tup xs] st=.ok (.int n) st:=h
  simp [m_Op_answer,zH,vj,vi,vh,EI,EH,qp h',i3,yE,hl,wg,wj,hc,ht,h,Ub]
 | inr z =>
  refine ⟨_,ho,λs o h'=>⟨s,?_,Old.refl _⟩⟩
  have h:∀st,m [.tup xs] st=.err "Fault" ["word"] [.str z] st:=h
  simp [m_Op_answer,zH,vj,vi,vh,qp h',i3,yE,hl,wg,wj,hc,ht,h]
def gq (st:ae):jj [.str "add"] st=.ok (.ref st.length) (st++[dP "add" 2]):=by
 simp [jj,zH,iM,iL,eJ,jb,jc,cJ,gW,iK,iJ,yS,insOf,Mi.putK,bI,dw,yE]
def gr (st:ae):jj [.str "sub"] st=.ok (.ref st.length) (st++[dP "sub" 2]):=by
 simp [jj,zH,iM,iL,eJ,jb,jc,cJ,gW,iK,iJ,yS,insOf,Mi.putK,bI,dw,yE]
def gu (st:ae):jj [.str "mul"] st=.ok (.ref st.length) (st++[dP "mul" 2]):=by
 simp [jj,zH,iM,iL,eJ,jb,jc,cJ,gW,iK,iJ,yS,insOf,Mi.putK,bI,dw,yE]
def Ue (st:ae):jj [.str "div"] st=.ok (.ref st.length) (st++[dP "div" 2]):=by
 simp [jj,zH,iM,iL,eJ,jb,jc,cJ,gW,iK,iJ,yS,insOf,Mi.putK,bI,dw,yE]
def Ug (st:ae):jj [.str "rem"] st=.ok (.ref st.length) (st++[dP "rem" 2]):=by
 simp [jj,zH,iM,iL,eJ,jb,jc,cJ,gW,iK,iJ,yS,insOf,Mi.putK,bI,dw,yE]
def Uh (st:ae):jj [.str "less"] st=.ok (.ref st.length) (st++[dP "less" 2]):=by
 simp [jj,zH,iM,iL,eJ,jb,jc,cJ,gW,iK,iJ,yS,insOf,Mi.putK,bI,dw,yE]
def Ui (st:ae):jj [.str "down"] st=.ok (.ref st.length) (st++[dP "down" 1]):=by
 simp [jj,zH,iM,iL,eJ,jb,jc,cJ,gW,iK,iJ,yS,insOf,Mi.putK,bI,dw,yE]
def tb {m:Al} {xs:An} (n:Int) (h1:n.natAbs<10 ^ 18->∀st,m [.tup xs] st=.ok (.int n) st) (h2:¬n.natAbs<10 ^ 18->∀st,m [.tup xs] st=.err "Fault" ["word"] [.str "wide"] st):fX m xs (eX n):=by
 unfold eX
 by_cases h:n.natAbs<10 ^ 18
 ·rw [zA h];exact h1 h
 ·rw [zF h];exact h2 h
def Fp {k:Nat}(hk:k<7) {x y:Int}(hx:x.natAbs<10 ^ 18) (hy:y.natAbs<10 ^ 18):gZ (cV k) (arg k (.int x) (.int y)) (tl k x y):=by
 have cm:bW x y=true:=by simp only [bW,Bool.or_eq_true,js,iY];exact .inl ⟨by omega,by omega⟩
 match k with
 | 0=>exact (show gZ "add" [.int x,.int y] (eX (x+y)) from kW (f := "tell_add") (ks:=["number", "number"]) (m:=oP) gq (by simp [jb,jc,yE]) (by simp [ww]) (mJ x y) (tb _ (λh st=>by simp [oP,zH,u7,wg,wj,vR _ h]) (λh st=>by simp [oP,zH,u7,wg,wj,vS _ h])))
 | 1=>exact (show gZ "sub" [.int x,.int y] (eX (x-y)) from kW (f := "tell_sub") (ks:=["number", "number"]) (m:=oQ) gr (by simp [jb,jc,yE]) (by simp [ww]) (mJ x y) (tb _ (λh st=>by simp [oQ,zH,u9,wg,wj,vR _ h]) (λh st=>by simp [oQ,zH,u9,wg,wj,vS _ h])))
 | 2=>exact (show gZ "mul" [.int x,.int y] (eX (x*y)) from kW (f := "tell_mul") (ks:=["number", "number"]) (m:=oR) gu (by simp [jb,jc,yE]) (by simp [ww]) (mJ x y) (tb _ (λh st=>by simp [oR,zH,u_,wg,wj,cm,vR _ h]) (λh st=>by simp [oR,zH,u_,wg,wj,cm,vS _ h])))
 | 3 =>
  show gZ "div" [.int x,.int y] _
  refine kW (f := "tell_div") (ks:=["number", "number"]) (m:=oS) Ue (by simp [jb,jc,yE]) (by simp [ww]) (mJ x y) ?_
  show fX _ _ (if y=0 then .inr "nought" else .inl (yY x y))
  by_cases h:y=0
  ·rw [zA h];exact λst=>by simp [oS,zH,va,wj,h]
  ·rw [zF h]
   have hb:y.natAbs<2 ^ 200:=by omega
   exact λst=>by simp [oS,zH,va,EB,wg,wj,h,p_];omega
 | 4 =>
  show gZ "rem" [.int x,.int y] _
  refine kW (f := "tell_rem") (ks:=["number", "number"]) (m:=oU) Ug (by simp [jb,jc,yE]) (by simp [ww]) (mJ x y) ?_
  show fX _ _ (if y=0 then .inr "nought" else .inl (yU x y))
  by_cases h:y=0
  ·rw [zA h];exact λst=>by simp [oU,zH,vb,wj,h]
  ·rw [zF h];exact λst=>by simp [oU,zH,vb,EC,wg,wj,h,tP]
 | 5=>exact show gZ "less" [.int x,.int y] (.inl (nb (decide (x<y)))) from kW (f := "tell_less") (ks:=["number", "number"]) (m:=vd) Uh (by simp [jb,jc,yE]) (by simp [ww]) (mJ x y) λst=>zV rfl (zU (zD (zI (zm (zm (zg rfl) rfl yJ) (zm (zg rfl) rfl yv) (uQ _ _))) (Ud _ _)))
 | 6 =>
  show gZ "down" [.int x] _
  refine kW (f := "tell_down") (ks:=["number"]) (m:=oV) Ui (by simp [jb,jc,yE]) (by simp [ww]) (Uc x) ?_
  show fX _ _ (if x<1 then .inr "low" else .inl (x-1))
  by_cases h:x<1
  ·rw [zA h];exact λst=>by simp [oV,zH,ve,wg,h]
  ·rw [zF h];exact λst=>by simp [oV,zH,ve,ED,wg,h]
 | k+7=>omega
def Uj {k:Nat}{x y n:Int}(hx:x.natAbs<10 ^ 18) (hy:y.natAbs<10 ^ 18) (h:tl k x y=.inl n):n.natAbs<10 ^ 18:=by
 have bb:∀{m},eX m=.inl n->n.natAbs<10 ^ 18:=λ{m} h=>by
  unfold eX at h
  split at h
  ·cases h;assumption
  ·cases h
 match k with
 | 0=>exact bb h
 | 1=>exact bb h
 | 2=>exact bb h
 | 3 =>
  have h:(if y=0 then .inr "nought" else .inl (yY x y))=(Sum.inl n:Sum Int Str):=h
  split at h
  ·cases h
  ·rename_i q
   cases h
   have:=T8 (i:=x) ⟨by omega,by omega⟩ q
   have h1:=this.1
   have h2:=this.2
   omega
 | 4 =>
  have h:(if y=0 then .inr "nought" else .inl (yU x y))=(Sum.inl n:Sum Int Str):=h
  split at h
  ·cases h
  ·rename_i q
   cases h
   have:=T9 (i:=x) (j:=y) ⟨by omega,by omega⟩ q
   have h1:=this.1
   have h2:=this.2
   omega
 | 5 =>
  cases h
  cases decide (x<y)<;>decide
 | k+6 =>
  have h:(if x<1 then .inr "low" else .inl (x-1))=(Sum.inl n:Sum Int Str):=h
  split at h
  ·cases h
  ·cases h;omega
inductive At where
 | is (n:Int)|of (w:Str)
def At.v:At->PV
 | .is n=>bD (.int n)
 | .of z=>gY z
structure St where
 z:Str
 k:Nat
 a:At
 b:At
def St.v (s:St):PV:=fW s.z (cV s.k) (arg s.k s.a.v s.b.v)
abbrev Dv:=List (Str×Int)
def val (D:Dv):At->Option Int
 | .is n=>some n
 | .of w=>D.lookup w
abbrev dK (D:Dv):Ad:=D.map (·.1)
abbrev dX (D:Dv):An:=D.map λp=>bD (.int p.2)
inductive Fo:Dv->List St->Sum Dv Str->Prop
 | nil (D:Dv):Fo D [] (.inl D)
 | ok {D:Dv} {s:St} {ss:List St} {r:Sum Dv Str} {x y n:Int}:val D s.a=some x->val D s.b=some y->x.natAbs<10 ^ 18->y.natAbs<10 ^ 18->s.k<7->tl s.k x y=.inl n->s.z∉dK D->Fo (D++[(s.z,n)]) ss r->Fo D (s::ss) r
 | no {D:Dv} {s:St} {ss:List St} {x y:Int} {w:Str}:val D s.a=some x->val D s.b=some y->x.natAbs<10 ^ 18->y.natAbs<10 ^ 18->s.k<7->tl s.k x y=.inr w->Fo D (s::ss) (.inr w)
def pd:("is" : Str) ≠ "of" := by decide +kernel
def Uk {fo fk fx:Ai}{e:zc}{s:ae}{n:Nat}{ks:Ad}{xs:An}{z:Str}{d:PV}(ho:fo e s=.ok (.ref n) s) (hn:s[n]?=some (.dic ks xs)) (hk:fk e s=.ok (.str z) s) (hx:fx e s=.ok d s):mx fo fk fx e s=.ok (((ks.zip xs).lookup z).getD d) s:=by
 unfold mx
 rw [ho,zJ]
 show y9 s n _=_
 rw [qC hn]
 simp only
 rw [hk,zJ,hx,zJ]
 show y9 s n _=_
 rw [qC hn]
def Fq (w:Str):∀D:Dv,((dK D).zip (dX D)).lookup w=(D.lookup w).map λn=>bD (.int n)
 | []=>rfl
 | (y,n)::D=>by
  show ((y::dK D).zip (bD (.int n)::dX D)).lookup w=_
  rw [List.zip_cons_cons,yE,yE]
  cases w==y with
  | true=>rfl
  | false=>exact Fq w D
section
variable {s:ae}{sd o an:Nat}{D:Dv}{a:At}{x:Int}
def rB (h:s[sd]?=some (.dic (dK D) (dX D))) (hv:val D a=some x):iI [a.v,.ref sd] s=.ok (bD (.int x)) s:=by
 cases a with
 | is n=>cases hv;exact zV rfl (zw (yi (q0 rfl (bN pd _))) (zU (zg rfl)))
 | of w =>
  have hv:D.lookup w=some x:=hv
  have G:=Uk (fo:=zd 1) (fk:=zh zn (zd 0) (Ar 1)) (fx:=zd 0) (e:=[some (gY w),Au sd]) (zg rfl) h (zm (zg rfl) rfl yv) (zg rfl)
  rw [Fq,hv] at G
  exact zV rfl (yP (yM (q0 rfl (dO _)) (zU G)))
def Ft {as:An}{ys:List Int}(hl:as.length=ys.length) (h9:as.length<=1000) (h:∀(i:Nat) p y,as[i]?=some p->ys[i]?=some y->∀s',s'[sd]?=s[sd]?->iI [p,.ref sd] s'=.ok (bD (.int y)) s'):qP [.tup as,.ref sd] s=.ok (.tup (ys.map λy=>bD (.int y))) (s++[.lst (ys.map λy=>bD (.int y))]):=by
 have C:=vJ (e:=[some (.tup as),Au sd]) (src:=zd 0) (fe:=zt iI (ze (zd 0) (ze (zd 2) zk))) (Y:=ys.map λy=>bD (.int y)) (s:=s) (s1:=s) (xs:=as) (zg rfl) h9 (by simpa using hl) (λi p q e1 e2=>by
  rw [jr] at e2
  obtain ⟨y,hy,rfl⟩:=Option.map_eq_some_iff.mp e2
  exact zD (zP (zg rfl) (zg rfl)) (h i p y e1 hy s rfl))
 exact zV rfl (zU (zD (zI C) gX))
def Fv:∀k,df (List.replicate k (PV.bl true))=some (List.replicate k true)
 | 0=>rfl
 | k+1=>by rw [List.replicate_succ,df,Fv k];rfl
def Fw {r k:Nat}(h:s[r]?=some (.lst (List.replicate k (.bl true)))):oE [.ref r] s=.ok (.bl true) s:=by
 show (yp s r λ_=>Res.ok r s).bind _=_
 rw [yA h,zJ,yA h,Fv]
 simp
def Fx {z w:Str}{as:An}{ys:List Int}{k:Int}(h9:ys.length<=900) (ho:∀s,jj [.str w] s=.ok (.ref s.length) (s++[dP w k])) (s:ae):∃s1 q,s1[q]?=some (dP w k)/\Old s s1 /\
  (∀v s2,m_Op_answer [.ref q,.tup (ys.map PV.int)] s1=.ok v s2->m_Folding_told_by [.ref o,fW z w as,.tup (ys.map λy=>bD (.int y))] s=.ok (bD v) s2) /\
  (∀c ks zs s2,m_Op_answer [.ref q,.tup (ys.map PV.int)] s1=.err c ks zs s2->m_Folding_told_by [.ref o,fW z w as,.tup (ys.map λy=>bD (.int y))] s=.err c ks zs s2):=by
 have C:=rm (e:=[Au o,some (fW z w as),some (.tup (ys.map λy=>bD (.int y)))]) (src:=zd 2) (fe:=zh yc (zh zn (zd 0) (Ar 0)) (As "is")) (f:=λ_=>.bl true) (s:=s) (s1:=s) (zg rfl) (by simp;omega) (λp hp=>by
  obtain ⟨y,_,rfl⟩:=wE.mp hp
  exact zm (zm (zg rfl) rfl yJ) rfl (dO _))
 have er:((ys.map λy=>bD (.int y)).map λ_=>PV.bl true)=List.replicate ys.length (.bl true):=by
  rw [List.map_map]
  exact List.map_const' ..
 rw [er] at C
 let s1:=s++[SO.lst (List.replicate ys.length (.bl true))]
 let s2:=s1++[dP w k]
 have Q:=ho s1
 have C2:=vJ (e:=[Au o,some (fW z w as),some (.tup (ys.map λy=>bD (.int y)))]) (src:=zd 2) (fe:=zh zn (zd 0) (Ar 1)) (Y:=ys.map PV.int) (s:=s2) (s1:=s2) (zg rfl) (by simp;omega) (by simp) (λi p q e1 e2=>by
  rw [jr] at e1 e2
  obtain ⟨y,hy,rfl⟩:=Option.map_eq_some_iff.mp e1
  rw [hy] at e2
  cases e2
  exact zm (zg rfl) rfl yv)
 let s3:=s2++[SO.lst (ys.map PV.int)]
 have q3:s3[s1.length]?=some (dP w k):=zQ _ _ _ _ (yj _ _)
 have T:(mB (zt oE (ze (jg (yt (zd 2)) (zh yc (zh zn (zd 0) (Ar 0)) (As "is"))) zk))) [Au o,some (fW z w as),some (.tup (ys.map λy=>bD (.int y)))] s=.ok true s1:=zY (zD (zI C) (Fw (yj _ _)))
 refine ⟨s3,s1.length,q3,(zQ _ _).trans ((zQ _ _).trans (zQ _ _)),λv s4 h=>?_,λc ks zs s4 h=>?_⟩
 ·exact zV rfl (zw (yi (q0 rfl (bN n1 _))) (yP (yM T (zU (yl (zP rfl (mG (zD (zI (zm (zg rfl) rfl jz)) Q) (yj _ _) (by decide +kernel) (zA rfl) (zI (zD (zI C2) gX)) h)) (by simp))))))
 ·exact TC rfl (zw (yi (q0 rfl (bN n1 _))) (TF (yM T (TH (TJ (TL (x:=.str "is") (s1:=s1) rfl (TK (mG (zD (zI (zm (zg rfl) rfl jz)) Q) (yj _ _) (by decide +kernel) (zA rfl) (zI (zD (zI C2) gX)) h))))))))
abbrev pe (an sd:Nat):SO:=.ins "Folding" ["answers", "steads"] [.ref an,.ref sd]
abbrev bG:Aj:=(zp (zK 4 (zt qP (ze (zh zn (zd 3) (Ar 3)) (ze (yz (bj "steads" insOf excOf) (zd 0)) zk))))
  (zp (gR 5 6 "Fault" (fO "told_by" qU (zd 0) (ze (zd 3) (ze (zd 4) zk)))
  (zL (zW (ze (zt jp (ze (zd 2) zk)) (ze (zW (ze (As "fail") (ze (yz (bj "word" insOf excOf) (zd 6)) zk))) zk)))))
  (zS (mB (zh qv (zd 5) (mC .non)))
  yf
  (yT (yz (bj "steads" insOf excOf) (zd 0)) (zh zn (zd 3) (Ar 1)) (zd 5)))))
abbrev eG (o:Nat) (bv:PV) (lf:Nat) (z3 z4 z5 z6 z7:Ao):zc:=[Au o,some bv,Au lf,z3,z4,z5,z6,z7]
abbrev d7 (w:Str):PV:=.tup [.str "fail", .str w]
structure Gd (o an sd lf:Nat) (D:Dv) (s:ae):Prop where
 ob:s[o]?=some (pe an sd)
 st:s[sd]?=some (.dic (dK D) (dX D))
 lf:s[lf]?=some (.lst [])
def Gd.old {s':ae}{lf:Nat}(h:Gd o an sd lf D s) (k:Old s s'):Gd o an sd lf D s':=⟨k _ _ h.ob,k _ _ h.st,k _ _ h.lf⟩
end
def Fy {k:Nat}{D:Dv}{a b:At}{x y:Int}(ha:val D a=some x) (hb:val D b=some y) {s:ae}{sd:Nat}(h:s[sd]?=some (.dic (dK D) (dX D))):∃ys:List Int,(arg k a.v b.v).length=ys.length/\ys.length<=2/\ys.map PV.int=arg k (.int x) (.int y)/\∀(i:Nat) p y,(arg k a.v b.v)[i]?=some p->ys[i]?=some y->∀s',s'[sd]?=s[sd]?->iI [p,.ref sd] s'=.ok (bD (.int y)) s':=by
 unfold arg
 by_cases hk:k=6
 ·rw [zA hk,zA hk]
  refine ⟨[x],rfl,by simp,rfl,λi p y e1 e2 s' es=>?_⟩
  match i with
  | 0=>cases e1;cases e2;exact rB (es.trans h) ha
  | i+1=>cases e1
 ·rw [zF hk,zF hk]
  refine ⟨[x,y],rfl,by simp,rfl,λi p y e1 e2 s' es=>?_⟩
  match i with
  | 0=>cases e1;cases e2;exact rB (es.trans h) ha
  | 1=>cases e1;cases e2;exact rB (es.trans h) hb
  | i+2=>cases e1
section
variable {s:ae}{o an sd lf:Nat}{D:Dv}{x:St}{bv:PV}{z4 z5 z6 z7:Ao}{m n:Int}
def Ul (G:Gd o an sd lf D s) (ha:val D x.a=some m) (hb:val D x.b=some n) (bm:m.natAbs<10 ^ 18) (bn:n.natAbs<10 ^ 18) (hk:x.k<7) {r:Int}(ht:tl x.k m n=.inl r) (hz:x.z∉dK D) (hD:D.length<=900):∃eY s1,bG (eG o bv lf (some x.v) z4 z5 z6 z7) s=.ok (.nx (eG o bv lf (some x.v) eY (some (bD (.int r))) z6 z7)) s1/\Gd o an sd lf (D++[(x.z,r)]) s1/\Kx [sd] s s1:=by
 obtain ⟨ys,l1,l2,e2,a9⟩:=Fy (k:=x.k) ha hb G.st
 have ST:=Ft l1 (by omega) a9
 have A:=Fp hk bm bn
 rw [ht] at A
 obtain ⟨k,A1,A2⟩:=A
 rw [<-e2] at A2
 have o1:Old s (s++[SO.lst (ys.map λy=>bD (.int y))]):=zQ _ _
 generalize s++[SO.lst (ys.map λy=>bD (.int y))]=t1 at ST o1
 obtain ⟨t2,q,hq,o2,T,_⟩:=Fx (o:=o) (z:=x.z) (as:=arg x.k x.a.v x.b.v) (ys:=ys) (by omega) A1 t1
 obtain ⟨t3,E3,o3⟩:=A2 t2 q hq
 have TB:=T _ _ E3
 have fY:=o1.trans (o2.trans o3)
 have G3:=G.old fY
 have FS:∀{s':ae},Gd o an sd lf D s'->bj "steads" insOf excOf (.ref o) s'=.ok (.ref sd) s':=λh=>rh h.ob (by decide +kernel) rfl
 have P:=wy (wz hz) (fo:=yz (bj "steads" insOf excOf) (zd 0)) (fi:=zh zn (zd 3) (Ar 1)) (fv:=zd 5) (e:=eG o bv lf (some x.v) (some (.tup (ys.map λy=>bD (.int y)))) (some (bD (.int r))) z6 z7) (s:=t3) (zg rfl) (wO (zg rfl) (FS G3)) (zm (zg rfl) rfl yv) G3.st (by simp;omega)
 have ek:dK D++[x.z]=dK (D++[(x.z,r)]):=by simp
 have ex:dX D++[bD (.int r)]=dX (D++[(x.z,r)]):=by simp
 rw [ek,ex] at P
 have no:o≠sd:=λq=>by subst q;have:=G3.ob;rw [G3.st] at this;cases this
 have nl:lf≠sd:=λq=>by subst q;have:=G3.lf;rw [G3.st] at this;cases this
 refine ⟨_,_,zw (zO (zD (zP (zm (zg rfl) rfl vH) (wO (zg rfl) (FS G))) ST)) (zw (TY (Fb (zg rfl) (o1 _ _ G.ob) (by decide +kernel) (zA rfl) (zP (zg rfl) (zg rfl)) TB)) (Dg (zY (zm (zg rfl) rfl rfl)) P)),⟨?_,yW (ym G3.st),?_⟩,fY.kx.trans (jA (by simp))⟩
 ·rw [jd (yw no)];exact G3.ob
 ·rw [jd (yw nl)];exact G3.lf
def Um (G:Gd o an sd lf D s) (ha:val D x.a=some m) (hb:val D x.b=some n) (bm:m.natAbs<10 ^ 18) (bn:n.natAbs<10 ^ 18) (hk:x.k<7) {w:Str}(ht:tl x.k m n=.inr w):∃s1,bG (eG o bv lf (some x.v) z4 z5 z6 z7) s=.ok (.rt (.tup [.tup [],d7 w])) s1/\Old s s1:=by
 obtain ⟨ys,l1,l2,e2,a9⟩:=Fy (k:=x.k) ha hb G.st
 have ST:=Ft l1 (by omega) a9
 have A:=Fp hk bm bn
 rw [ht] at A
 obtain ⟨k,A1,A2⟩:=A
 rw [<-e2] at A2
 have o1:Old s (s++[SO.lst (ys.map λy=>bD (.int y))]):=zQ _ _
 generalize s++[SO.lst (ys.map λy=>bD (.int y))]=t1 at ST o1
 obtain ⟨t2,q,hq,o2,_,T⟩:=Fx (o:=o) (z:=x.z) (as:=arg x.k x.a.v x.b.v) (ys:=ys) (by omega) A1 t1
 obtain ⟨t3,E3,o3⟩:=A2 t2 q hq
 have TB:=T _ _ _ _ E3
 have fY:=o1.trans (o2.trans o3)
 have G3:=G.old fY
 have F:bj "word" insOf excOf (.exo "Fault" ["word"] [.str w]) t3=.ok (.str w) t3:=by
  rw [MF,zA (by decide +kernel)]
  rfl
 exact ⟨t3,zw (zO (zD (zP (zm (zg rfl) rfl vH) (wO (zg rfl) (rh G.ob (by decide +kernel) rfl))) ST)) (yP (TV (Fb (zg rfl) (o1 _ _ G.ob) (by decide +kernel) (zA rfl) (zP (zg rfl) (zg rfl)) TB) (by simp) (zU (yl (zP (zD (zI (zg rfl)) (by rw [qu,yA G3.lf])) (yl (zP rfl (wO (zg rfl) F)) (by simp))) (by simp))))),fY⟩
end
def Uo {o an sd lf:Nat}{bv:PV}{D:Dv}{ss:List St}{r:Sum Dv Str}(h:Fo D ss r):∀{s:ae}{z3 z4 z5:Ao},Gd o an sd lf D s->D.length+ss.length<=900 ->
  match r with
  | .inl D'=>∃kX eY kY s1,forL (gN 3) bG (ss.map St.v) (eG o bv lf z3 z4 z5 none none) s=.ok (.nx (eG o bv lf kX eY kY none none)) s1/\Gd o an sd lf D' s1/\Kx [sd] s s1
  | .inr w=>∃s1,forL (gN 3) bG (ss.map St.v) (eG o bv lf z3 z4 z5 none none) s=.ok (.rt (.tup [.tup [],d7 w])) s1/\Kx [sd] s s1:=by
 induction h with
 | nil D=>exact λ{s z3 z4 z5} G _=>⟨z3,z4,z5,s,rfl,G,Kx.refl _ _⟩
 | ok h1 h2 h3 h4 h5 h6 h7 r ih =>
  rename_i D x ss r' m n q
  intro s z3 z4 z5 G hl
  simp at hl
  obtain ⟨eY,s1,E,G1,k1⟩:=Ul (bv:=bv) (z4:=z4) (z5:=z5) (z6:=none) (z7:=none) G h1 h2 h3 h4 h5 h6 h7 (by omega)
  have:=ih (z3:=some x.v) (z4:=eY) (z5:=some (bD (.int q))) G1 (by simp;omega)
  cases r' with
  | inl D' =>
   obtain ⟨a,b,c,s2,E2,G2,k2⟩:=this
   exact ⟨a,b,c,s2,oZ rfl E E2,G2,k1.trans k2⟩
  | inr w =>
   obtain ⟨s2,E2,k2⟩:=this
   exact ⟨s2,oZ rfl E E2,k1.trans k2⟩
 | no h1 h2 h3 h4 h5 h6 =>
  intro s z3 z4 z5 G hl
  obtain ⟨s1,E,o1⟩:=Um (bv:=bv) (z4:=z4) (z5:=z5) (z6:=none) (z7:=none) G h1 h2 h3 h4 h5 h6
  exact ⟨s1,TQ rfl E,o1.kx⟩
inductive En:Sum Dv Str->At->PV->Prop
 | ok (D:Dv) (a:At) (x:Int):val D a=some x->En (.inl D) a (bP (bD (.int x)))
 | no (w:Str) (a:At):En (.inr w) a (d7 w)
inductive Ee:PV->Prop
 | give (v:PV):Ee (bP (bD v))
 | fail (w:Str):Ee (d7 w)
def En.ee {r:Sum Dv Str}{a:At}{e:PV}(h:En r a e):Ee e:=by cases h<;>constructor
def Ee.ed {e:PV}(h:Ee e):Ed e:=by cases h<;>constructor
def gf:("give" : Str) ≠ "fail" := by decide +kernel
section
variable {s:ae}{o an sd F N:Nat}{z:Str}{ps:Ad}{ss:List St}{a:At}{e:PV}{r:Sum Dv Str}
def Up {lf:Nat}{D:Dv}{x:Int}(G:Gd o an sd lf D s) (hv:val D a=some x):m_Folding_folded_end [.ref o,bP a.v] s=.ok (.tup [.tup [],bP (bD (.int x))]) s :=
 zV rfl (zw (yi (q0 rfl (bN gf _))) (zw (yi (q0 rfl (bN n4 _))) (zw (zO (zD (zP (zm (zg rfl) rfl yv) (wO (zg rfl) (rh G.ob (by decide +kernel) rfl))) (rB G.st hv))) (yP (yM (q0 rfl (dO _)) (zU (yl (zP (yl we (by simp)) (yl (zP rfl (zg rfl)) (by simp))) (by simp))))))))
def Uq (h:Fo [] ss r) (he:En r a e) (hl:ss.length<=900) (ho:s[o]?=some (pe an sd)) (hs:s[sd]?=some (.dic [] [])):∃s1,m_Folding_folded_block [.ref o,cz (ss.map St.v) (bP a.v)] s=.ok (cz [] e) s1/\Kx [sd] s s1:=by
 let t:=s++[SO.lst []]
 have ot:Old s t:=zQ _ _
 have G:Gd o an sd s.length [] t:=⟨ot _ _ ho,ot _ _ hs,yj _ _⟩
 have L:=Uo (bv:=cz (ss.map St.v) (bP a.v)) h (z3:=none) (z4:=none) (z5:=none) G (by simp;omega)
 cases he with
 | ok D a x hv =>
  obtain ⟨z3,z4,z5,s1,E,G1,k1⟩:=L
  refine ⟨s1,zV rfl (zw (zO (wf we (by simp))) (zw (kT (zm (zg rfl) rfl yJ) E) (zw (zO (mG (zg rfl) G1.ob (by decide +kernel) (zA rfl) (zI (zm (zg rfl) rfl yv)) (Up G1 hv))) (zU (yl (zP (zm (zD (zI (zg rfl)) (by rw [qu,yA G1.lf])) (zm (zg rfl) rfl yJ) (mF (xs:=[]) (ys:=[]) (by simp))) (zm (zg rfl) rfl yv)) (by simp)))))),λm so q e=>k1 _ _ q (ot _ _ e)⟩
 | no w a =>
  obtain ⟨s1,E,k1⟩:=L
  exact ⟨s1,zV rfl (zw (zO (wf we (by simp))) (yP (kT (zm (zg rfl) rfl yJ) E))),λm so q e=>k1 _ _ q (ot _ _ e)⟩
def Ur (an:Nat) (s:ae):∃sd s1,cJ "Folding" oW [.ref an] s=.ok (.ref s.length) s1/\s1[s.length]?=some (pe an sd)/\s1[sd]?=some (.dic [] [])/\s.length<sd/\Old s s1:=by
 let o:=s.length
 let t0:=s++[SO.ins "Folding" [] []]
 have h0:t0[o]?=some (.ins "Folding" [] []):=yj _ _
 let t1:=t0.set o (.ins "Folding" ["answers"] [.ref an])
 have h1:t1[o]?=some (.ins "Folding" ["answers"] [.ref an]):=yW (ym h0)
 have l1:t1.length=o+1:=by simp [t1,t0,o]
 let t2:=t1++[SO.dic [] []]
 have h2:t2[o]?=some (.ins "Folding" ["answers"] [.ref an]):=zQ _ _ _ _ h1
 have E:oW [.ref o,.ref an] t0=.ok .non (t2.set o (pe an t1.length)):=iQ rfl (zw (iR (zg rfl) (zg rfl) h0 (by decide +kernel) (by decide)) (iR (x:=.ref t1.length) (s1:=t2) rfl (zg rfl) h2 (by decide +kernel) (by decide)))
 refine ⟨t1.length,t2.set o (pe an t1.length),?_,yW (ym h2),?_,by omega,λm so e=>?_⟩
 ·show (oW [.ref o,.ref an] t0).bind _=_
  rw [E,zJ]
  rfl
 ·rw [jd (by omega)];exact yj _ _
 ·have hm:=ym e
  have ne:o≠m:=by show s.length≠m;omega
  rw [jd ne]
  refine zQ _ _ _ _ ?_
  show (t0.set o _)[m]?=_
  rw [jd ne]
  exact zQ _ _ _ _ e
def Us {fs:Ah}{g:PV->zc->Option zc}{body:Aj}{e:zc}{s s1:ae}(h:fs e s=.ok [.tup []] s1):qL fs g body e s=.ok (.nx e) s1:=by
 unfold qL
 rw [h,zJ]
 rfl
def Ut {fs:Ah}{e:zc}{r:Nat}(h:fs e s=.ok [.ref r] s) (hr:s[r]?=some (.lst [])):qK fs e s=.ok (.tup []) s:=by
 unfold qK
 rw [h,zJ,O9 hr]
 rfl
def Uu (he:Ee e) (u:Nat):vq [cz [] e,.ref u] s=.ok (cz [] e) (s++[.lst []]):=by
 have AT:∃as,vp [e] s=.ok (.tup as) s/\vo [.tup as,.ref u] s=.ok .non s:=by
  cases he with
  | give v=>exact ⟨[bD v],zV rfl (zw (yi (zY (zD (zI (zg rfl)) (vO (.give _))))) (zw (yi (q0 rfl (bN n4 _))) (zw (yi (q0 rfl (bN gf _))) (zU (yl (zI (zm (zg rfl) rfl yv)) (by simp)))))),iQ rfl (kT (zg rfl) (oZ rfl (yi (q0 rfl (bN pd _))) rfl))⟩
  | fail w=>exact ⟨[],zV rfl (zw (yi (zY (zD (zI (zg rfl)) (vO (.fail _))))) (zw (yi (q0 rfl (bN n6 _))) (yP (yM (q0 rfl (dO _)) (zU (yl we (by simp))))))),iQ rfl (kT (zg rfl) rfl)⟩
 obtain ⟨as,A1,A2⟩:=AT
 have NI:∀{s:ae},(mB (zh yc (zh zn (zd 2) (Ar 0)) (As "if"))) [some (cz [] e),Au u,some e,none,none,none,none] s=.ok false s:=by
  cases he with
  | give v=>exact q0 rfl (bN vK _)
  | fail w=>exact q0 rfl (bN vL _)
 exact zV rfl (zw (zO (zm (zg rfl) rfl yv)) (zw (yi NI) (zw (oF (zD (zP (zD (zI (zg rfl)) A1) (zg rfl)) A2)) (zw (zO (wf we (by simp))) (zw (Us (zI (zm (zg rfl) rfl yJ))) (zU (yl (zP (Ut (zI (zg rfl)) (yj _ _)) (zg rfl)) (by simp))))))))
def Uv (h:Fo [] ss r) (he:En r a e) (hl:ss.length<=900) (an:Nat) (s:ae):∃s1,oX [cu z ps (ss.map St.v) (bP a.v),.ref an] s=.ok (cu z ps [] e) s1/\Old s s1:=by
 obtain ⟨sd,t1,E1,h1,h2,l1,o1⟩:=Ur an s
 obtain ⟨t2,E2,k2⟩:=Uq h he hl h1 h2
 have o2:Old s t2:=λm so q=>k2 _ _ (by simp;have:=ym q;omega) (o1 _ _ q)
 have S:=Uu (s:=t2++[SO.dic [] []]) he.ee t2.length
 exact ⟨_,zV rfl (zw (zO (mG (zD (zI (zg rfl)) E1) h1 (by decide +kernel) (zA rfl) (zI (zm (zg rfl) rfl jz)) E2)) (zU (yl (wx (zm (zg rfl) rfl yJ) (zm (zg rfl) rfl yv) (zD (zP (y:=.ref t2.length) (s2:=t2++[SO.dic [] []]) (zg rfl) rfl) S)) (by simp)))),o2.trans ((zQ _ _).trans (zQ _ _))⟩
def gn:PV->PV
 | .tup [.str _,.tup [.str w,v]]=>bD v
 | _=>.non
def Uw (he:Ee e) (s:ae):iH [cu z ps [] e] s=.ok (gn e) s:=by
 cases he with
 | give v=>exact zV rfl (zw (zO (zm (zg rfl) rfl jz)) (yP (yM (wv (zY (zm (zD (zI (zm (zg rfl) rfl yJ)) (kN _)) rfl (gm true (by simp) _))) (wv (zY (zm (zm (zm (zg rfl) rfl yv) rfl yJ) rfl (dO _))) (zY (zm (zm (zm (zm (zg rfl) rfl yv) rfl yv) rfl yJ) rfl (dO _))))) (zU (zm (zm (zg rfl) rfl yv) rfl yv)))))
 | fail w=>exact zV rfl (zw (zO (zm (zg rfl) rfl jz)) (zw (yi (wv (zY (zm (zD (zI (zm (zg rfl) rfl yJ)) (kN _)) rfl (gm true (by simp) _))) (mj (zY (zm (zm (zm (zg rfl) rfl yv) rfl yJ) rfl (bN (yw gf) _)))))) (zU rfl)))
def Ux (vs:An) (hl:vs.length<=900) (a:At):∃v,∀s,iH [cu z ps vs (bP a.v)] s=.ok v s:=by
 have LN:∀s,yq [.tup vs] s=.ok (.int (vs.length:Int)) s:=λs=>kN _
 have T0:∀{b:Bool},decide ((vs.length:Int)=0)=b->∀s,(mB (zh yc (zt yq (ze (zh zn (zd 1) (Ar 0)) zk)) (Ar 0))) [some (cu z ps vs (bP a.v)),some (cz vs (bP a.v))] s=.ok b s:=λhb s=>zY (zm (zD (zI (zm (zg rfl) rfl yJ)) (LN s)) rfl (gm _ hb _))
 by_cases h0:vs.length=0
 ·cases a with
  | is n=>exact ⟨_,λs=>zV rfl (zw (zO (zm (zg rfl) rfl jz)) (yP (yM (wv (T0 (wm (by omega)) s) (wv (zY (zm (zm (zm (zg rfl) rfl yv) rfl yJ) rfl (dO _))) (zY (zm (zm (zm (zm (zg rfl) rfl yv) rfl yv) rfl yJ) rfl (dO _))))) (zU (zm (zm (zg rfl) rfl yv) rfl yv)))))⟩
  | of w=>exact ⟨.non,λs=>zV rfl (zw (zO (zm (zg rfl) rfl jz)) (zw (yi (wv (T0 (wm (by omega)) s) (wv (zY (zm (zm (zm (zg rfl) rfl yv) rfl yJ) rfl (dO _))) (zY (zm (zm (zm (zm (zg rfl) rfl yv) rfl yv) rfl yJ) rfl (bN (yw pd) _)))))) (zU rfl)))⟩
 ·exact ⟨.non,λs=>zV rfl (zw (zO (zm (zg rfl) rfl jz)) (zw (yi (mj (T0 (jn (by omega)) s))) (zU rfl)))⟩
abbrev bO:Aj:=(zp (yT (zd 0) (zd 5) (zt oX (ze (zh zn (zd 0) (zd 5)) (ze (zd 3) zk))))
  (zp (zK 6 (zt iH (ze (zh zn (zd 0) (zd 5)) zk)))
  (zS (jE (mB (zh wN (zd 6) (mC .non))) (mB (zh (yG true) (zd 5) (zd 3))))
  (zp (yT (zd 3) (zd 5) (zd 6))
  (yZ (yt (zh zn (zd 2) (zd 5))) (gN 7)
  yf))
  zX)))
abbrev bQ:Aj:=(zp (zK 4 jH)
  (zp (yZ (yt (zd 1)) (gN 5)
  bO)
  (zK 1 (zt jI (ze (zd 4) zk)))))
def Uy (h:Fo [] ss r) (he:En r a e) (hl:ss.length<=900) (hF:s[F]?=some (.dic [z] [cu z ps (ss.map St.v) (bP a.v)])) (hN:s[N]?=some (.lst [.str z])):∃s1,qV [.ref F,.ref N] s=.ok .non s1/\s1[F]?=some (.dic [z] [cu z ps [] e])/\Kx [F] s s1:=by
 have U:Fu z ps (ss.map St.v) (bP a.v):=⟨λv hv=>by obtain ⟨x,_,rfl⟩:=wE.mp hv;exact ⟨_,_,_,rfl⟩,.give _,by simpa using hl⟩
 obtain ⟨A,L,t1,E1,a1,b1,o1⟩:=Fg U hF
 obtain ⟨C,K,t2,E2,c2,d2,o2⟩:=T5 a1 b1
 have iS:=o1.trans o2
 obtain ⟨mI,HA⟩:=Ux (z:=z) (ps:=ps) (ss.map St.v) (by simpa using hl) a
 obtain ⟨B,t3,E3,b3,o3,lB⟩:=T7 (iS _ _ hF) (iS _ _ hN) HA
 have fY:=iS.trans o3
 let t4:=t3++[SO.dic [] []]
 have o4:Old t3 t4:=zQ _ _
 have F4:=o4 _ _ (fY _ _ hF)
 have N4:=o4 _ _ (fY _ _ hN)
 have C4:=o4 _ _ (o3 _ _ c2)
 have K4:=o4 _ _ (o3 _ _ d2)
 have B4:=o4 _ _ b3
 obtain ⟨t5,E5,o5⟩:=Uv (z:=z) (ps:=ps) h he hl B t4
 have F5:=o5 _ _ F4
 have P:=vG (fo:=zd 0) (fi:=zd 5) (fv:=zt oX (ze (zh zn (zd 0) (zd 5)) (ze (zd 3) zk))) (e:=[Au F,Au N,Au C,Au B,Au t3.length,some (.str z),none,none]) (s:=t4) (zD (zP (zm (zg rfl) (zg rfl) (wB F4 (by simp))) (zg rfl)) E5) (zg rfl) (zg rfl) F5 (by simp)
 have dp:jx z (cu z ps [] e) [z] [cu z ps (ss.map St.v) (bP a.v)]=([z],[cu z ps [] e]):=by unfold jx;rw [zA (by simp)];unfold repl;rw [zA rfl];rfl
 rw [dp] at P
 have WC:∀{m:Nat} {so:SO},t5[m]?=some so->(∀ks xs,so=.dic ks xs->m≠F)->(∀ks xs,so ≠ .dic ks xs)->F≠m:=λ{m so} e _ h2 q=>by
  subst q
  rw [F5] at e
  cases e
  exact h2 _ _ rfl
 have nN:F≠N:=λq=>by subst q;rw [hF] at hN;cases hN
 have nK:F≠K:=λq=>by subst q;rw [F4] at K4;cases K4
 have nC:F≠C:=λq=>by
  subst q
  rw [F4] at C4
  simp at C4
 have nB:F≠B:=λq=>by subst q;rw [F4] at B4;cases B4
 let t6:=t5.set F (.dic [z] [cu z ps [] e])
 have F6:t6[F]?=some (.dic [z] [cu z ps [] e]):=yW (ym F5)
 have k6:Kx [F] t5 t6:=jA (by simp)
 have AN:=Uw (z:=z) (ps:=ps) he.ee t6
 have B6:=k6 _ _ (by simpa using yw nB) (o5 _ _ B4)
 have C6:=k6 _ _ (by simpa using yw nC) (o5 _ _ C4)
 have K6:=k6 _ _ (by simpa using yw nK) (o5 _ _ K4)
 have N6:=k6 _ _ (by simpa using yw nN) (o5 _ _ N4)
 have G4:t4[t3.length]?=some (.dic [] []):=yj _ _
 have lF:=ym (fY _ _ hF)
 have WD:=ym b3
 have G6:=k6 _ _ (by simp;omega) (o5 _ _ G4)
 have NI:yG true (.str z) (.ref B) t6=.ok (.bl true) t6:=Fd (b:=false) B6 rfl
 have Fz:∃kY t7,bO [Au F,Au N,Au C,Au B,Au t3.length,some (.str z),none,none] t4=.ok (.nx [Au F,Au N,Au C,Au B,Au t3.length,some (.str z),some kY,none]) t7/\t7[F]?=some (.dic [z] [cu z ps [] e])/\t7[N]?=some (.lst [.str z])/\t7[t3.length]?=some (.dic [] [])/\Kx [B] t6 t7:=by
  have I:=o_ (gn e) t6
  cases hq:cH (gn e) with
  | true =>
   rw [hq] at I
   exact ⟨_,t6,zw P (zw (zO (zD (zI (zm (zg rfl) (zg rfl) (wB F6 (by simp)))) AN)) (yi (mj (zY (zm (zg rfl) rfl I))))),F6,N6,G6,Kx.refl _ _⟩
  | false =>
   rw [hq] at I
   have P2:=wy (wz (z:=z) (x:=gn e) (ks:=[]) (xs:=[]) (by simp)) (fo:=zd 3) (fi:=zd 5) (fv:=zd 6) (e:=[Au F,Au N,Au C,Au B,Au t3.length,some (.str z),some (gn e),none]) (s:=t6) (zg rfl) (zg rfl) (zg rfl) B6 (by simp)
   have k7:Kx [B] t6 (t6.set B (.dic ([]++[z]) ([]++[gn e]))):=jA (by simp)
   have Uz:C≠B:=λq=>by subst q;rw [B6] at C6;cases C6
   have UA:K≠B:=λq=>by subst q;rw [B6] at K6;cases K6
   have UB:N≠B:=λq=>by subst q;rw [B6] at N6;cases N6
   have C7:=k7 _ _ (by simpa using Uz) C6
   have K7:=k7 _ _ (by simpa using UA) K6
   exact ⟨_,_,zw P (zw (zO (zD (zI (zm (zg rfl) (zg rfl) (wB F6 (by simp)))) AN)) (yM (wv (zY (zm (zg rfl) rfl I)) (zY (zm (zg rfl) (zg rfl) NI))) (zw P2 (wA (zm (zg rfl) (zg rfl) (wB C7 (by simp))) K7 (o9 K7))))),k7 _ _ (by simpa using nB) F6,k7 _ _ (by simpa using UB) N6,k7 _ _ (by simp;omega) G6,k7⟩
 obtain ⟨v6,t7,EL,F7,N7,G7,k7⟩:=Fz
 let t8:=t7++[SO.lst []]
 have LD:jI [.ref t3.length] t7=.ok (.ref t7.length) t8:=rA G7
 have BQ:bQ [Au F,Au N,Au C,Au B,none,none,none,none] t3=.ok (.nx [Au F,Au t7.length,Au C,Au B,Au t3.length,some (.str z),some v6,none]) t8:=zw (zO (v:=.ref t3.length) (s1:=t4) rfl) (zw (wA (zg rfl) N4 (rq N4 rfl EL N7)) (zO (zD (zI (zg rfl)) LD)))
 have N3:=fY _ _ hN
 have W:bB (mB (zh jo (zt yq (ze (zd 1) zk)) (Ar 0))) bQ 1000000 [Au F,Au N,Au C,Au B,none,none,none,none] t3=.ok (.nx _) t8:=rj (n:=999999) (zY (zm (zD (zI (zg rfl)) (bt N3)) rfl (iO true (by simp) _))) BQ (o8 999998 (zY (zm (zD (zI (zg rfl)) (bt (xs:=[]) (yj _ _))) rfl (iO false (by simp) _))))
 refine ⟨t8,iQ rfl (zw (zO (zD (zI (zD (zI (zg rfl)) E1)) E2)) (zw (zO (zD (zP (zg rfl) (zg rfl)) E3)) W)),zQ _ _ _ _ F7,λm so q e=>zQ _ _ _ _ (k7 _ _ ?_ (k6 _ _ q (o5 _ _ (o4 _ _ (fY _ _ e)))))⟩
 have e2:=ym (iS _ _ e)
 simp
 omega
end
section
variable {s:ae}{F A L D:Nat}{z:Str}{ps:Ad}{e:PV}
abbrev yK (z:Str) (ps:Ad) (e:PV):PV:=cu z ps [] e
def UC (he:Ee e):Fu z ps [] e:=⟨(λ_ h=>nomatch h),he.ed,by simp⟩
def UD (hA:s[A]?=some (.dic [z] [.ref L])) (hL:s[L]?=some (.lst [])) (M:Nat):vt [.str z,.ref A,.ref M] s=.ok (.ref s.length) (s++[.lst [.str z]]):=by
 let t:=s++[SO.lst [.str z]]
 have h:t[s.length]?=some (.lst [.str z]):=yj _ _
 have ot:Old s t:=zQ _ _
 have tA:=ot _ _ hA
 have tL:=ot _ _ hL
 have I0:zn (.ref s.length) (.int 0) t=.ok (.str z) t:=by
  show yp _ _ _=_
  rw [yA h];rfl
 have W:bB (mB (zh jX (zd 4) (zt yq (ze (zd 3) zk)))) (zp (zK 5 (zh zn (zd 3) (zd 4))) (zp (yZ (yt (zh zn (zd 1) (zd 5))) (gN 6) yf) (n8 4 gJ (Ar 1)))) 1000000 [some (.str z),Au A,Au M,Au s.length,some (.int 0),none,none] t=.ok (.nx [some (.str z),Au A,Au M,Au s.length,some (.int 1),some (.str z),none]) t:=rj (n:=999999) (zY (zm (zg rfl) (zD (zI (zg rfl)) (bt h)) (iN true (by simp) _))) (zw (zO (zm (zg rfl) (zg rfl) I0)) (zw (wA (zm (zg rfl) (zg rfl) (wB tA (by simp))) tL (o9 tL)) rfl)) (o8 999998 (zY (zm (zg rfl) (zD (zI (zg rfl)) (bt h)) (iN false (by simp) _))))
 exact zV rfl (zw (zO (wf (zI (zg rfl)) (by simp))) (zw (zO rfl) (zw W (zU (zg rfl)))))
def FA (he:Ee e) (hF:s[F]?=some (.dic [z] [yK z ps e])):∃R s1,qW [.ref F,.str z] s=.ok (.ref R) s1/\s1[R]?=some (.lst [.str z])/\Old s s1:=by
 obtain ⟨A,L,t1,E1,a1,l1,o1⟩:=Fg (UC he) hF
 let t2:=t1++[SO.dic [z] [.str z]]
 have K:(uK [((zd 1),(zd 1))]) [Au F,some (.str z)] t1=.ok (.ref t1.length) t2:=by
  show (if fQ (t1++[SO.dic [] []])[t1.length]?=true then Res.ok _ _ else .stuck)=_
  rw [yj,zA (show fQ (some (SO.dic [] []))=true from rfl),ri]
  rfl
 have o2:Old t1 t2:=zQ _ _
 exact ⟨_,_,zV rfl (zU (zD (wx (zg rfl) (zD (zI (zg rfl)) E1) K) (UD (o2 _ _ a1) (o2 _ _ l1) _))),yj _ _,o1.trans (o2.trans (zQ _ _))⟩
def UE (he:Ee e) (hF:s[F]?=some (.dic [z] [yK z ps e])):∃K s1,qX [.ref F,.str z] s=.ok (.ref K) s1/\s1[K]?=some (.dic [z] [yK z ps e])/\Old s s1:=by
 let t:=s++[SO.dic [] []]
 have ot:Old s t:=zQ _ _
 obtain ⟨R,t1,E1,r1,o1⟩:=FA he (ot _ _ hF)
 have k1:=o1 _ _ (yj s (SO.dic [] []))
 have F1:=o1 _ _ (ot _ _ hF)
 have lR:=ym r1
 have P:=wy (wz (z:=z) (x:=yK z ps e) (ks:=[]) (xs:=[]) (by simp)) (fo:=zd 2) (fi:=zd 3) (fv:=zh zn (zd 0) (zd 3)) (e:=[Au F,some (.str z),Au s.length,some (.str z)]) (s:=t1) (s1:=t1) (zm (zg rfl) (zg rfl) (wB F1 (by simp))) (zg rfl) (zg rfl) k1 (by simp)
 have ne:s.length≠R:=λq=>by subst q;rw [k1] at r1;cases r1
 have k2:Kx [s.length] t1 (t1.set s.length (.dic ([]++[z]) ([]++[yK z ps e]))):=jA (by simp)
 exact ⟨s.length,_,zV rfl (zw (zO rfl) (zw (wA (zD (zP (zg rfl) (zg rfl)) E1) r1 (rq r1 rfl P (k2 _ _ (by simpa using yw ne) r1))) (zU (zg rfl)))),yW (ym k1),λm so q=>k2 _ _ (by simp;have:=ym q;omega) (o1 _ _ (ot _ _ q))⟩
def UG (he:Ee e) (hF:s[F]?=some (.dic [z] [yK z ps e])):∃D s1,vv [.ref F,.str z] s=.ok (.ref D) s1/\s1[D]?=some (.dic [] [])/\Old s s1:=by
 let t:=s++[SO.dic [] []]
 have ot:Old s t:=zQ _ _
 have tF:=ot _ _ hF
 let t1:=t.set F (.fdi [z] [yK z ps e])
 have f1:t1[F]?=some (.fdi [z] [yK z ps e]):=rp tF
 obtain ⟨t2,E2,o2⟩:=Ff (ss:=[]) (λ_ h=>nomatch h) he.ed (by simp) t1
 have B:(yZ (yt (zt kQ (ze (zh zn (zh jM (zd 0) (zd 3)) (Ar 2)) zk))) (gN 4) yf) [Au F,some (.str z),Au s.length,some (.str z),none,none] t1=.ok (.nx [Au F,some (.str z),Au s.length,some (.str z),none,none]) t2:=kT (zD (zI (zm (zm (zg rfl) (zg rfl) (ro f1)) rfl jz)) E2) rfl
 obtain ⟨t3,E3,k3,h3⟩:=mH (fo:=zd 0) (g:=gN 3) (e:=[Au F,some (.str z),Au s.length,none,none,none]) (zg rfl) tF rfl B (ms:=[]) o2.kx (by simp)
 have o3:Old t t3:=λm so q=>k3 _ _ (by simp) q
 let t4:=t3++[SO.dic [] []]
 have o4:Old t3 t4:=zQ _ _
 have F4:=o4 _ _ (o3 _ _ tF)
 have NE:∀s,ju (.str z) (.str z) s=.ok (.bl false) s:=λs=>(uR z z).trans (by simp)
 have B4:(zS (jE (mB (zh ju (zd 3) (zd 1))) (mB (zh yc (mx (zd 2) (zd 3) (Ar 0)) (Ar 1)))) yf zX) [Au F,some (.str z),Au s.length,some (.str z),none,Au t3.length] (t4.set F (.fdi [z] [yK z ps e]))=.ok (.nx [Au F,some (.str z),Au s.length,some (.str z),none,Au t3.length]) (t4.set F (.fdi [z] [yK z ps e])):=yi (mj (zY (zm (zg rfl) (zg rfl) (NE _))))
 obtain ⟨t5,E5,k5,h5⟩:=mH (fo:=zd 0) (g:=gN 3) (e:=[Au F,some (.str z),Au s.length,some (.str z),none,Au t3.length]) (zg rfl) F4 rfl B4 (ms:=[]) (Kx.refl _ _) (by simp)
 have o5:Old t4 t5:=λm so q=>k5 _ _ (by simp) q
 exact ⟨t3.length,t5,zV rfl (zw (zO rfl) (zw E3 (zw (zO rfl) (zw E5 (zU (zg rfl)))))),o5 _ _ (yj _ _),ot.trans (o3.trans (o4.trans o5))⟩
def UH (ps:Ad) (nd:ps.Nodup) (hl:ps.length<=900) (st:ae):∃d s1,gT [.tup (ps.map PV.str)] st=.ok (.ref d) s1/\Old st s1:=by
 obtain ⟨e',s1,F,⟨z2,he⟩,hd,ob⟩:=fz (g:=gN 2) (body:=(yT (zd 1) (zd 2) (mC (.bl true)))) (ps.map PV.str) (λi e s=>(∃z2,e=[some (.tup (ps.map PV.str)),Au st.length,z2])/\(∃xs,s[st.length]?=some (.dic (ps.take i) xs))/\Kx [st.length] (st++[.dic [] []]) s) (λi x e s hx ⟨⟨z2,he⟩,⟨xs,hd⟩,ob⟩=>by
  subst he
  rw [jr] at hx
  obtain ⟨z,hz,rfl⟩:=Option.map_eq_some_iff.mp hx
  have P:=wy (wz (z:=z) (x:=.bl true) (TM nd hz)) (fo:=zd 1) (fi:=zd 2) (fv:=mC (.bl true)) (e:=[some (.tup (ps.map PV.str)),Au st.length,some (.str z)]) (s:=s) rfl (zg rfl) (zg rfl) hd (by simp;omega)
  exact ⟨_,_,_,rfl,P,⟨_,rfl⟩,⟨_,by rw [yW (ym hd),ET hz]⟩,ob.trans (jA (by simp))⟩) (ps.map PV.str).length 0 [some (.tup (ps.map PV.str)),Au st.length,none] (st++[SO.dic [] []]) (by omega) ⟨⟨none,rfl⟩,⟨[],yj _ _⟩,Kx.refl _ _⟩
 subst he
 rw [List.drop_zero] at F
 exact ⟨_,_,zV rfl (zw (zO rfl) (zw (kT (zg rfl) F) (zU (zg rfl)))),λm so q=>ob _ _ (by simp;have:=ym q;omega) (zQ _ _ _ _ q)⟩
def FC (he:Ee e) (s:ae):mD [cz [] e] s=.ok (.tup []) (s++[.lst []]):=by
 have C:(w9 (yt (zt iG (ze (zd 0) zk))) (mB (zt mz (ze (zd 0) zk))) (zh zn (zd 0) (Ar 1))) [some (cz [] e)] s=.ok (.ref s.length) (s++[.lst []]):=by
  rw [Dd,kG,zD (zI (zg rfl)) (vM (by simp) he.ed s),zJ]
  have:=EY (ft:=(mB (zt mz (ze (zd 0) zk)))) (fe:=(zh zn (zd 0) (Ar 1))) (env:=[some (cz [] e)]) (st:=s) (p:=λ_=>false) (f:=id) [e] (λx hx=>by rw [List.mem_singleton.mp hx];exact zY (zD (zI (zg rfl)) (vO he.ed))) (λx _ q=>by cases q) []
  exact this
 exact zV rfl (zU (zD (zI C) gX))
abbrev vT (z:Str) (D T J:Nat):SO:=.ins "Host" ["name", "lone", "taken", "size", "depth", "joined_names"] [.str z,.ref D,.ref T,.int 1,.int 0,.ref J]
def FE (he:Ee e) {en:zc} {i:Nat} (hi:en[i]?=some (some e)) (s:ae):(mB (zh yc (zh zn (zd i) (Ar 0)) (As "if"))) en s=.ok false s:=by
 cases he with
 | give v=>exact q0 hi (bN vK _)
 | fail w=>exact q0 hi (bN vL _)
def UI (he:Ee e) (nd:ps.Nodup) (hp:ps.length<=900) (D:Nat) (s:ae):∃T J s1,cJ "Host" mE [yK z ps e,.ref D] s=.ok (.ref s.length) s1/\s1[s.length]?=some (vT z D T J)/\s1[J]?=some (.lst [])/\Old s s1:=by
 let o:=s.length
 let t0:=s++[SO.ins "Host" [] []]
 have h0:t0[o]?=some (.ins "Host" [] []):=yj _ _
 let t1:=t0.set o (.ins "Host" ["name"] [.str z])
 have h1:t1[o]?=some (.ins "Host" ["name"] [.str z]):=yW (ym h0)
 let t2:=t1.set o (.ins "Host" ["name", "lone"] [.str z,.ref D])
 have h2:t2[o]?=some (.ins "Host" ["name", "lone"] [.str z,.ref D]):=yW (ym h1)
 let t3:=t2++[SO.lst []]
 obtain ⟨T,t4,E4,o4⟩:=UH ps nd hp t3
 have h4:=o4 _ _ (zQ t2 [SO.lst []] _ _ h2)
 let t5:=t4.set o (.ins "Host" ["name", "lone", "taken"] [.str z,.ref D,.ref T])
 have h5:t5[o]?=some (.ins "Host" ["name", "lone", "taken"] [.str z,.ref D,.ref T]):=yW (ym h4)
 let t6:=t5.set o (.ins "Host" ["name", "lone", "taken", "size"] [.str z,.ref D,.ref T,.int 1])
 have h6:t6[o]?=some (.ins "Host" ["name", "lone", "taken", "size"] [.str z,.ref D,.ref T,.int 1]):=yW (ym h5)
 let t7:=t6.set o (.ins "Host" ["name", "lone", "taken", "size", "depth"] [.str z,.ref D,.ref T,.int 1,.int 0])
 have h7:t7[o]?=some (.ins "Host" ["name", "lone", "taken", "size", "depth"] [.str z,.ref D,.ref T,.int 1,.int 0]):=yW (ym h6)
 let t8:=t7++[SO.lst []]
 have h8:=zQ t7 [SO.lst []] _ _ h7
 have l7:=ym h7
 let t9:=t8.set o (vT z D T t7.length)
 have DP:vw [cz [] e] t6=.ok (.int 0) t6:=zV rfl (zw (zO (zm (zg rfl) rfl yv)) (zw (yi (FE he rfl _)) (zU rfl)))
 have ST:mD [cz [] e] t2=.ok (.tup []) t3:=FC he t2
 have LN:iG [cz [] e] t5=.ok (.tup ([]++[e])) t5:=vM (by simp) he.ed t5
 have AD:yx (.tup (ps.map PV.str)) (.tup []) t3=.ok (.tup (ps.map PV.str)) t3:=(mF (by simp;omega)).trans (by rw [List.append_nil])
 have E:mE [.ref o,yK z ps e,.ref D] t0=.ok .non t9:=iQ rfl (zw (iR (zm (zg rfl) rfl yJ) (zg rfl) h0 (by decide +kernel) (by decide)) (zw (iR (zg rfl) (zg rfl) h1 (by decide +kernel) (by decide)) (zw (iR (zD (zI (zm (zm (zg rfl) rfl yv) (zD (zI (zm (zg rfl) rfl jz)) ST) AD)) E4) (zg rfl) h4 (by decide +kernel) (by decide)) (zw (iR (x:=.int 1) (zD (zI (zD (zI (zm (zg rfl) rfl jz)) LN)) (kN _)) (zg rfl) h5 (by decide +kernel) (by decide)) (zw (iR (zD (zI (zm (zg rfl) rfl jz)) DP) (zg rfl) h6 (by decide +kernel) (by decide)) (iR (x:=.ref t7.length) (s1:=t8) (wf we (by simp)) (zg rfl) h8 (by decide +kernel) (by decide)))))))
 have ks:Kx [o] t0 t9:=(jA (by simp)).trans ((jA (by simp)).trans ((zQ _ _).kx.trans (o4.kx.trans ((jA (by simp)).trans ((jA (by simp)).trans ((jA (by simp)).trans ((zQ _ _).kx.trans (jA (by simp)))))))))
 refine ⟨T,t7.length,t9,?_,yW (ym h8),?_,λm so q=>ks _ _ (by simp;have:=ym q;omega) (zQ _ _ _ _ q)⟩
 ·show (mE [.ref o,yK z ps e,.ref D] t0).bind _=_
  rw [E,zJ]
  rfl
 ·rw [jd (by omega)];exact yj _ _
def UJ {T J o:Nat}(he:Ee e) (i:Int):m_Host_may_join [.ref o,e,.int i] s=.ok (.bl false) s:=by
 have NE:∀{y:Str},y ≠ "go" -> ju (.str y) (.str "go") s=.ok (.bl true) s:=λh=>(uR _ _).trans (by simp [h])
 cases he with
 | give v=>exact zV rfl (yP (yM (uN (zY (zm (zm (zg rfl) rfl yJ) rfl (NE n4)))) (zU rfl)))
 | fail w=>exact zV rfl (yP (yM (uN (zY (zm (zm (zg rfl) rfl yJ) rfl (NE n6)))) (zU rfl)))
def UK {T J o:Nat}(he:Ee e) (ho:s[o]?=some (vT z D T J)):m_Host_joined_block [.ref o,cz [] e,.int 0] s=.ok (cz [] e) s:=by
 have M:(mB (wt "may_join" qY (zd 0) (ze (zd 4) (ze (zd 2) zk)))) [Au o,some (cz [] e),some (.int 0),some (.tup []),some e,none,none] s=.ok false s:=zY (mG (zg rfl) ho (by decide +kernel) (zA rfl) (zP (zg rfl) (zg rfl)) (UJ (T:=T) (J:=J) he 0))
 exact zV rfl (zw (zO (zm (zg rfl) rfl yJ)) (zw (zO (zm (zg rfl) rfl yv)) (zw (o8 999999 M) (zw (yi (FE he rfl _)) (zU (yl (zP (zg rfl) (zg rfl)) (by simp)))))))
abbrev bJ:Aj:=(zS (mB (zh (yG false) (zd 4) (zd 0)))
  (zp (zK 5 (zh zn (zd 0) (zd 4)))
  (zp (zK 6 (zt (cJ "Host" mE) (ze (zd 5) (ze (zd 2) zk))))
  (zp (yT (zd 0) (zd 4) (zW (ze (zd 4) (ze (zh zn (zd 5) (Ar 1)) (ze (wt "joined_block" oY (zd 6) (ze (zh zn (zd 5) (Ar 2)) (ze (Ar 0) zk))) zk)))))
  (zp (zS (mB (zh (yG false) (zd 4) (zd 2)))
  yf
  zX)
  (zp (yZ (yt (yz (bj "joined_names" insOf excOf) (zd 6))) (gN 7)
  yf)
  (zS (mB (zh jo (zt yq (ze (yz (bj "joined_names" insOf excOf) (zd 6)) zk)) (Ar 0)))
  yf
  zX))))))
  zX)
def UL (he:Ee e) (nd:ps.Nodup) (hp:ps.length<=900) (hF:s[F]?=some (.dic [z] [yK z ps e])):∃R s1,qZ [.ref F,.str z] s=.ok (.ref R) s1/\s1[R]?=some (.lst [])/\Old s s1:=by
 obtain ⟨D,t1,E1,d1,o1⟩:=UG he hF
 let t2:=t1++[SO.lst []]
 have o2:Old t1 t2:=zQ _ _
 have F2:=o2 _ _ (o1 _ _ hF)
 let t3:=t2++[SO.lst [.str z]]
 have o3:Old t2 t3:=zQ _ _
 have LD:jI [.ref F] t2=.ok (.ref t2.length) t3:=rA F2
 have F3:=o3 _ _ F2
 obtain ⟨T,J,t4,E4,h4,j4,o4⟩:=UI (z:=z) he nd hp D t3
 have F4:=o4 _ _ F3
 have D4:=o4 _ _ (o3 _ _ (o2 _ _ d1))
 have L4:=o4 _ _ (yj t2 (SO.lst [.str z]))
 have R4:=o4 _ _ (o3 _ _ (yj t1 (SO.lst [])))
 have IN:yG false (.str z) (.ref F) t3=.ok (.bl true) t3:=E_ F3 (by simp)
 have P:=vG (fo:=zd 0) (fi:=zd 4) (fv:=(zW (ze (zd 4) (ze (zh zn (zd 5) (Ar 1)) (ze (wt "joined_block" oY (zd 6) (ze (zh zn (zd 5) (Ar 2)) (ze (Ar 0) zk))) zk))))) (e:=[Au F,some (.str z),Au D,Au t1.length,some (.str z),some (yK z ps e),Au t3.length,none]) (s:=t4) (s1:=t4) (x:=yK z ps e) (yl (wx (zg rfl) (zm (zg rfl) rfl yv) (mG (zg rfl) h4 (by decide +kernel) (zA rfl) (zP (zm (zg rfl) rfl jz) rfl) (UK he h4))) (by simp)) (zg rfl) (zg rfl) F4 (by simp)
 have dp:jx z (yK z ps e) [z] [yK z ps e]=([z],[yK z ps e]):=by unfold jx;rw [zA (by simp)];unfold repl;rw [zA rfl];rfl
 rw [dp,E9 F4] at P
 have IX:zn (.ref F) (.str z) t3=.ok (yK z ps e) t3:=wB F3 (by simp)
 have JN:bj "joined_names" insOf excOf (.ref t3.length) t4=.ok (.ref J) t4:=rh h4 (by decide +kernel) rfl
 have LO:=rq (g:=gN 4) (body:=bJ) (e:=[Au F,some (.str z),Au D,Au t1.length,none,none,none,none]) (yj t2 (SO.lst [.str z])) rfl (yM (zY (zm (zg rfl) (zg rfl) IN)) (zw (zO (zm (zg rfl) (zg rfl) IX)) (zw (zO (zD (zP (zg rfl) (zg rfl)) E4)) (zw P (zw (yi (zY (zm (zg rfl) (zg rfl) (E_ D4 rfl)))) (zw (wA (wO (zg rfl) JN) j4 (o9 j4)) (yi (zY (zm (zD (zI (wO (zg rfl) JN)) (bt j4)) rfl (iO false (by simp) _)))))))))) L4
 have CI:=Fc (e:=[Au F,some (.str z),Au D,Au t1.length,some (.str z),some (yK z ps e),Au t3.length,none]) (src:=zd 3) (ft:=(mB (zh (yG false) (zd 0) (zd 1)))) (fe:=zd 0) (p:=λ_=>false) (f:=id) (s:=t4) (s1:=t4) (n:=t1.length) (xs:=[]) (zg rfl) R4 (by simp) (λ_ h=>nomatch h) (λ_ h=>nomatch h)
 exact ⟨t4.length,_,zV rfl (zw (zO (zD (zP (zg rfl) (zg rfl)) E1)) (zw (zO (wf we (by simp))) (zw (wA (zD (zI (zg rfl)) LD) (yj _ _) LO) (zU CI)))),yj _ _,o1.trans (o2.trans (o3.trans (o4.trans (zQ _ _))))⟩
end
def vU {n:Nat}(h:n<10 ^ 18):(n:Int).natAbs.log2<60:=by
 have h1:n<2 ^ 60:=Nat.lt_trans h (by decide)
 rw [Int.natAbs_natCast]
 by_cases hz:n=0
 ·rw [hz];decide
 ·exact (Nat.log2_lt hz).mpr h1
def d8 (n:Nat):Str:=Str.ofString (toString (n:Int))
def FF {i j:Nat}(h:d8 i=d8 j):i=j:=by
 unfold d8 at h
 have h:=(MQ _ _).mp h
 have h:Nat.repr i=Nat.repr j:=h
 exact Nat.repr_injective h
def vV {n:Nat}(h:n<10 ^ 18):(d8 n).length<=61:=by
 have e:=int_text_length_le (a:=(n:Int)) (k:=60) (by decide) (vU h)
 unfold d8
 rw [ofString_length]
 omega
def vW {n:Nat}(h:n<10 ^ 18) (st:ae):wc [.int (n:Int)] st=.ok (.str (d8 n)) st:=by
 rw [Nm,zA (Nat.lt_trans (vU h) (by decide))];rfl
def FG {z:Str}(hz:z.length<=9) {c:Nat}(h:c<10 ^ 18) (st:ae):gQ z (.int (c:Int)) st=.ok (.str (z++d8 c)) st:=by
 have l2:=vV h
 have l3:(z++d8 c:Str).length=z.length+(d8 c).length:=strLen_append _ _
 have l4:(z++d8 c:Str).length<=1000:=by omega
 show (if _ then _ else _)=_
 rw [zA ⟨Nat.lt_trans (vU h) (by decide),l4⟩]
 rfl
def vN (i:Nat):Str := "v" ++ d8 i
def v0:vN 0 = "v0" := by decide +kernel
def v1:vN 1 = "v1" := by decide +kernel
def UM:("q" ++ d8 0:Str) = "q0" := by decide +kernel
def vs (n:Nat):Ad:=(List.range n).map vN
section
variable {s:ae}{F N D:Nat}{z:Str}{ps:Ad}{e:PV}{ss:List St}{a:At}{r:Sum Dv Str}
def UN {fe src:Ai}{en:zc}{n:Nat}{x y:PV}{s1 s2:ae}(hs:src en s=.ok (.ref n) s1) (hn:s1[n]?=some (.lst [x])) (h:fe (some x::en) s1=.ok y s2) (h2:s2[n]?=some (.lst [x])):jg (yt src) fe en s=.ok (.ref s2.length) (s2++[.lst [y]]):=by
 rw [qt,kG,hs,zJ,ur,yA hn,zJ]
 show d6 fe en n (999999+1+1) 0 [] s1=_
 unfold d6
 rw [yA hn]
 show (br (fe (some x::en) s1)).bind _=_
 rw [h,jY,zJ]
 unfold d6
 rw [yA h2]
 rfl
def g0 (k:Nat):List Str->An
 | []=>[]
 | _::r=>gY (vN k)::g0 (k+1) r
def FH:∀(ps:Ad) (k:Nat) (z:Str),g0 k (ps++[z])=g0 k ps++[gY (vN (k+ps.length))]
 | [],k,z=>rfl
 | y::r,k,z=>by
  show gY (vN k)::g0 (k+1) (r++[z])=_
  rw [FH r (k+1) z,show k+1+r.length=k+(y::r).length by simp;omega]
  rfl
def FJ:∀{ps:Ad}{k i:Nat}{z:Str},ps.Nodup->ps[i]?=some z->(ps.zip (g0 k ps)).lookup z=some (gY (vN (k+i)))
 | y::r,k,0,z,nd,h=>by
  cases h
  show ((y,gY (vN k))::_).lookup y=_
  simp [yE]
 | y::r,k,i+1,z,nd,h=>by
  have h':r[i]?=some z:=h
  have ne:(z==y)=false:=by
   rw [beq_eq_false_iff_ne]
   intro q
   exact (jC.mp nd).1 (q▸lC h')
  have:=FJ (ps:=r) (k:=k+1) (jC.mp nd).2 h'
  rw [show k+1+i=k+(i+1) by omega] at this
  show ((y,gY (vN k))::_).lookup z=_
  rw [yE,ne]
  exact this
abbrev bR:Aj:=(yT (zd 2) (zd 4) (zW (ze (As "of") (ze (yz (gQ "v") (zd 3)) zk))))
abbrev eR (f:PV) (N S:Nat) (z3 z4 z5:Ao):zc:=[some f,Au N,Au S,z3,z4,z5]
def FK {f:PV}{N S:Nat}:∀(l pre:Ad) {s:ae}{z3 z4:Ao},(pre++l).Nodup->(pre++l).length<=900->s[S]?=some (.dic pre (g0 0 pre))->∃kX eY s1,forL (g2 3 4) bR (mw pre.length (l.map PV.str)) (eR f N S z3 z4 none) s=.ok (.nx (eR f N S kX eY none)) s1/\s1[S]?=some (.dic (pre++l) (g0 0 (pre++l)))/\Kx [S] s s1
 | [],pre,s,z3,z4,nd,hl,hs=>⟨z3,z4,s,rfl,by rw [List.append_nil];exact hs,Kx.refl _ _⟩
 | y::l,pre,s,z3,z4,nd,hl,hs=>by
  have ny:y∉pre:=λq=>by
   have:=(List.nodup_append.mp nd).2.2 y q y (y3 ..)
   exact this rfl
  have lp:pre.length<=900:=by simp at hl;omega
  have l1:("v" : Str).length<=9:=by decide +kernel
  have P:=wy (wz (z:=y) (x:=gY (vN pre.length)) (xs:=g0 0 pre) ny) (fo:=zd 2) (fi:=zd 4) (fv:=(zW (ze (As "of") (ze (yz (gQ "v") (zd 3)) zk)))) (e:=eR f N S (some (.int (pre.length:Int))) (some (.str y)) none) (s:=s) (yl (zP rfl (wO (zg rfl) (FG l1 (by omega) _))) (by simp)) (zg rfl) (zg rfl) hs (by omega)
  have ap:=FH pre 0 y
  rw [Nat.zero_add] at ap
  rw [<-ap] at P
  have e1:pre++y::l=(pre++[y])++l:=by simp
  obtain ⟨kX,eY,s1,E,h1,k1⟩:=FK (f:=f) (N:=N) (S:=S) l (pre++[y]) (s:=s.set S (.dic (pre++[y]) (g0 0 (pre++[y])))) (z3:=some (.int (pre.length:Int))) (z4:=some (.str y)) (by rw [<-e1];exact nd) (by rw [<-e1];exact hl) (yW (ym hs))
  rw [e1]
  refine ⟨kX,eY,s1,?_,h1,(jA (by simp)).trans k1⟩
  rw [iV] at E
  exact oZ rfl P E
def UO (he:Ee e):vA [e,.ref D,.ref N] s=.ok e s:=by
 cases he with
 | give v=>exact zV rfl (zw (yi (q0 rfl (bN gf _))) (zw (yi (q0 rfl (bN n4 _))) (zw (zO (zD (zP (zm (zg rfl) rfl yv) (zg rfl)) (zV rfl (zw (yi (q0 rfl (bN pd _))) (zU (zg rfl)))))) (yP (yM (q0 rfl (dO _)) (zU (yl (zP rfl (zg rfl)) (by simp))))))))
 | fail w=>exact zV rfl (yP (yM (q0 rfl (dO _)) (zU (zg rfl))))
def UP (he:Ee e):vB [cz [] e,.ref D,.ref N] s=.ok (cz [] e) (s++[.lst []]):=by
 have C:=rm (e:=[some (cz [] e),Au D,Au N,none]) (fe:=zt vz (ze (zd 0) (ze (zd 2) (ze (zd 3) zk)))) (f:=id) (s:=s) (s1:=s) (src:=(zh zn (zd 0) (Ar 0))) (xs:=[]) (zm (zg rfl) rfl yJ) (by simp) (λ_ h=>nomatch h)
 exact zV rfl (zw (zO (zD (zI C) gX)) (zU (yl (zP (zg rfl) (zD (wx (zm (zg rfl) rfl yv) (zg rfl) (zg rfl)) (UO he))) (by simp))))
def UQ (he:Ee e) (nd:ps.Nodup) (hp:ps.length<=900) (hN:s[N]?=some (.dic [z] [.str "q0"])):∃s1,q8 [yK z ps e,.ref N] s=.ok (yK "q0" (vs ps.length) e) s1/\Old s s1:=by
 let t:=s++[SO.dic [] []]
 let t1:=t++[SO.lst []]
 have o1:Old t t1:=zQ _ _
 have AD:yx (.tup (ps.map PV.str)) (.tup []) t1=.ok (.tup (ps.map PV.str)) t1:=(mF (by simp;omega)).trans (by rw [List.append_nil])
 obtain ⟨z3,z4,t2,E2,d2,k2⟩:=FK (f:=yK z ps e) (N:=N) (S:=s.length) ps [] (s:=t1) (z3:=none) (z4:=none) nd hp (o1 _ _ (yj _ _))
 have o2:Old s t2:=λm so q=>k2 _ _ (by simp;have:=ym q;omega) (o1 _ _ (zQ _ _ _ _ q))
 have LP:(qI (ze (zh yx (zh zn (zd 0) (Ar 1)) (zt mD (ze (zh zn (zd 0) (Ar 2)) zk))) zk) (g2 3 4) bR) (eR (yK z ps e) N s.length none none none) t=.ok (.nx (eR (yK z ps e) N s.length z3 z4 none)) t2:=by
  unfold qI
  rw [zI (zm (zm (zg rfl) rfl yv) (zD (zI (zm (zg rfl) rfl jz)) (FC he t)) AD),zJ]
  show (if (ps.map PV.str).length<=lim then Res.ok (ps.map PV.str) t1 else .stuck).bind _=_
  rw [zA (by simp [lim];omega),zJ]
  exact E2
 have C:=vJ (e:=eR (yK z ps e) N s.length z3 z4 none) (fe:=(zh zn (zh zn (zd 3) (zd 0)) (Ar 1))) (src:=(zh zn (zd 0) (Ar 1))) (s:=t2) (s1:=t2) (xs:=ps.map PV.str) (Y:=(vs ps.length).map PV.str) (zm (zg rfl) rfl yv) (by simp;omega) (by simp [vs]) (λi x y hx hy=>by
  rw [jr] at hx
  obtain ⟨w,hw,rfl⟩:=Option.map_eq_some_iff.mp hx
  have hi:=vI hw
  have:y=.str (vN i):=by
   simp only [vs,List.map_map,jr] at hy
   rw [List.getElem?_range hi] at hy
   cases hy;rfl
  subst this
  have LK:=FJ (k:=0) nd hw
  rw [Nat.zero_add] at LK
  exact zm (zm (zg rfl) (zg rfl) (wB d2 LK)) rfl yv)
 let t3:=t2++[SO.lst ((vs ps.length).map PV.str)]
 have N3:=zQ t2 [SO.lst ((vs ps.length).map PV.str)] _ _ (o2 _ _ hN)
 exact ⟨_,zV rfl (zw (zO rfl) (zw LP (zw (zO (zD (zI C) gX)) (zU (yl (wx (zm (zg rfl) (zm (zg rfl) rfl yJ) (wB N3 (by simp))) (zg rfl) (zD (wx (zm (zg rfl) rfl jz) (zg rfl) (zg rfl)) (UP he))) (by simp)))))),o2.trans ((zQ _ _).trans (zQ _ _))⟩
def UR (he:Ee e) (nd:ps.Nodup) (hp:ps.length<=900) (hF:s[F]?=some (.dic [z] [yK z ps e])):∃s1,vC [.ref F,.str z] s=.ok (.tup [yK "q0" (vs ps.length) e]) s1/\Old s s1:=by
 obtain ⟨R,t1,E1,r1,o1⟩:=FA he hF
 let t2:=t1++[SO.dic [] []]
 have o2:Old t1 t2:=zQ _ _
 have r2:=o2 _ _ r1
 have lR:=ym r1
 have l1:("q" : Str).length<=9:=by decide +kernel
 have FM:gQ "q" (.int 0) t2=.ok (.str "q0") t2:=(FG l1 (c:=0) (by omega) t2).trans (by rw [UM])
 have P:=wy (wz (z:=z) (x:=.str "q0") (ks:=[]) (xs:=[]) (by simp)) (fo:=zd 3) (fi:=zd 5) (fv:=yz (gQ "q") (zd 4)) (e:=[Au F,some (.str z),Au R,Au t1.length,some (.int 0),some (.str z)]) (s:=t2) (s1:=t2) (wO (zg rfl) FM) (zg rfl) (zg rfl) (yj _ _) (by simp)
 rw [ri,List.nil_append,List.nil_append] at P
 let t3:=t1++[SO.dic [z] [.str "q0"]]
 have o3:Old t1 t3:=zQ _ _
 have r3:=o3 _ _ r1
 have LP:(ma (ze (zd 2) zk) (g2 4 5) (yT (zd 3) (zd 5) (yz (gQ "q") (zd 4)))) [Au F,some (.str z),Au R,Au t1.length,none,none] t2=.ok (.nx [Au F,some (.str z),Au R,Au t1.length,some (.int 0),some (.str z)]) t3:=by
  rw [Cs,zI (zg rfl),zJ]
  show (yp t2 R _).bind _=_
  rw [yA r2,zJ]
  show c6 _ _ R (999999+1+1) 0 _ _=_
  unfold c6
  rw [yA r2]
  show Res.bind (yT _ _ _ [Au F,some (.str z),Au R,Au t1.length,some (.int 0),some (.str z)] t2) _=_
  rw [P,zJ]
  show c6 _ _ R (999999+1) 1 _ _=_
  unfold c6
  rw [yA r3]
  rfl
 have F3:=o3 _ _ (o1 _ _ hF)
 obtain ⟨t4,E4,o4⟩:=UQ he nd hp (yj t1 (SO.dic [z] [.str "q0"]))
 have C:=UN (en:=[Au F,some (.str z),Au R,Au t1.length,some (.int 0),some (.str z)]) (src:=zd 2) (fe:=zt q8 (ze (zh zn (zd 1) (zd 0)) (ze (zd 4) zk))) (s:=t3) (zg rfl) r3 (zD (zP (zm (zg rfl) (zg rfl) (wB F3 (by simp))) (zg rfl)) E4) (o4 _ _ r3)
 exact ⟨_,zV rfl (zw (zO (zD (zP (zg rfl) (zg rfl)) E1)) (zw (zO rfl) (zw LP (zU (zD (zI C) gX))))),o1.trans (o3.trans (o4.trans (zQ _ _)))⟩
abbrev kZ (z:Str) (ps:Ad) (ss:List St) (a:At):PV:=.tup [cu z ps (ss.map St.v) (bP a.v)]
def US (f:PV) (hf:∃ps b,f=.tup [.str z,ps,b]) (s:ae):qM [.tup [f]] s=.ok (.ref s.length) (s++[.dic [z] [f]]):=by
 obtain ⟨q,b,rfl⟩:=hf
 have D:=wy (wz (z:=z) (x:=.tup [.str z,q,b]) (ks:=[]) (xs:=[]) (by simp)) (fo:=zd 1) (fi:=zh zn (zd 2) (Ar 0)) (fv:=zd 2) (e:=[some (.tup [.tup [.str z,q,b]]),Au s.length,some (.tup [.str z,q,b])]) (s:=s++[SO.dic [] []]) (zg rfl) (zg rfl) (zm (zg rfl) rfl yJ) (yj _ _) (by simp)
 rw [ri] at D
 exact zV rfl (zw (zO rfl) (zw (kT (zg rfl) (oZ rfl D rfl)) (zU (zg rfl))))
def FL (h:Fo [] ss r) (he:En r a e) (hl:ss.length<=900) (nd:ps.Nodup) (hp:ps.length<=900) (s:ae):∃s1,q9 [kZ z ps ss a] s=.ok (.tup [yK "q0" (vs ps.length) e]) s1/\Old s s1:=by
 let f:=cu z ps (ss.map St.v) (bP a.v)
 let t1:=s++[SO.dic [z] [f]]
 have F1:t1[s.length]?=some (.dic [z] [f]):=yj _ _
 have B:qM [kZ z ps ss a] s=.ok (.ref s.length) t1:=US _ ⟨_,_,rfl⟩ s
 let t2:=t1++[SO.lst [.str z]]
 have LD:jI [.ref s.length] t1=.ok (.ref t1.length) t2:=rA F1
 have F2:t2[s.length]?=some (.dic [z] [f]):=zQ _ _ _ _ F1
 have N2:t2[t1.length]?=some (.lst [.str z]):=yj _ _
 obtain ⟨t3,E3,F3,k3⟩:=Uy h he hl F2 N2
 have o3:Old s t3:=λm so q=>k3 _ _ (by simp;have:=ym q;omega) (zQ _ _ _ _ (zQ _ _ _ _ q))
 obtain ⟨K,t4,E4,K4,o4⟩:=UE he.ee F3
 obtain ⟨R,t5,E5,R5,o5⟩:=UL he.ee nd hp K4
 obtain ⟨t6,E6,o6⟩:=UR he.ee nd hp (o5 _ _ K4)
 have W:bB (mB (zh jo (zt yq (ze (zd 3) zk)) (Ar 0))) (zp (j7 (zt qV (ze (zd 2) (ze (zd 3) zk)))) (zp (zK 2 (zt qX (ze (zd 2) (ze (zd 1) zk)))) (zK 3 (zt qZ (ze (zd 2) (ze (zd 1) zk)))))) 1000000 [some (kZ z ps ss a),some (.str z),Au s.length,Au t1.length] t2=.ok (.nx [some (kZ z ps ss a),some (.str z),Au K,Au R]) t5:=rj (n:=999999) (zY (zm (zD (zI (zg rfl)) (bt N2)) rfl (iO true (by simp) _))) (zw (oF (zD (zP (zg rfl) (zg rfl)) E3)) (zw (zO (zD (zP (zg rfl) (zg rfl)) E4)) (zO (zD (zP (zg rfl) (zg rfl)) E5)))) (o8 999998 (zY (zm (zD (zI (zg rfl)) (bt R5)) rfl (iO false (by simp) _))))
 exact ⟨t6,zV rfl (zw (zO (zm (zm (zg rfl) rfl yJ) rfl yJ)) (zw (zO (zD (zI (zg rfl)) B)) (zw (zO (zD (zI (zg rfl)) LD)) (zw W (zU (zD (zP (zg rfl) (zg rfl)) E6)))))),o3.trans (o4.trans (o5.trans o6))⟩
end
inductive dQ:Nat->PV->Prop
 | int (n:Nat) (i:Int):dQ n (.int i)
 | str (n:Nat) (z:Str):dQ n (.str z)
 | tup (n:Nat) (xs:An):xs.length<=1000->(∀x∈xs,dQ n x)->dQ (n+1) (.tup xs)
def FN {n:Nat}:∀{xs:An},(∀x∈xs,Mi.plain x=true/\dep x<=n/\bo x x=true)->bL xs=true/\dB xs<=n/\dC xs xs=true
 | [],_=>⟨rfl,by simp [dB],by rw [dC]⟩
 | x::xs,h=>by
  obtain ⟨a,b,c⟩:=h x (y3 ..)
  obtain ⟨a',b',c'⟩:=FN λy hy=>h y (jh _ hy)
  exact ⟨by rw [bL,a,a'];rfl,by rw [dB];omega,by rw [dC,c,c'];rfl⟩
def FO:∀{n:Nat}{x:PV},dQ n x->Mi.plain x=true/\dep x<=n/\bo x x=true
 | n,_,.int _ i=>⟨rfl,by simp [dep],by simp [bo]⟩
 | n,_,.str _ z=>⟨rfl,by simp [dep],by simp [bo]⟩
 | n+1,_,.tup _ xs _ h=>by
  obtain ⟨a,b,c⟩:=FN (n:=n) λx hx=>FO (h x hx)
  exact ⟨by rw [Mi.plain];exact a,by rw [dep];omega,by rw [bo];exact c⟩
def UT {n:Nat}{x:PV}(h:dQ n x) (hn:n<=100) (s:ae):yc x x s=.ok (.bl true) s:=by
 obtain ⟨a,b,c⟩:=FO h
 unfold yc
 rw [zA ⟨a,a,by omega⟩,c]
def j0 {P:PV->Prop}:∀x∈([]:An),P x:=λ_ h=>nomatch h
def bw {P:PV->Prop}{a:PV}{xs:An}(h:P a) (h':∀x∈xs,P x):∀x∈a::xs,P x:=λx hx=>by
 rcases yL.mp hx with q|q
 ·rw [q];exact h
 ·exact h' x q
def FP {fe:Ai}{en:zc}:∀(xs:An) (k:Nat) (s:ae),(∀x∈xs,∀s,∃s1,fe (some x::some x::en) s=.ok (.bl true) s1/\Old s s1)->∃s1,wu fe en (jS xs xs) (List.replicate k (.bl true)) s=.ok (.ref s1.length) (s1++[.lst (List.replicate (k+xs.length) (.bl true))])/\Old s s1
 | [],k,s,_=>⟨s,rfl,Old.refl _⟩
 | x::xs,k,s,h=>by
  obtain ⟨s1,E1,o1⟩:=h x (y3 ..) s
  obtain ⟨s2,E2,o2⟩:=FP xs (k+1) s1 λy hy=>h y (jh _ hy)
  refine ⟨s2,?_,o1.trans o2⟩
  show (br (fe (some x::some x::en) s)).bind (λz aa=>wu fe en (jS xs xs) (List.replicate k (.bl true)++[z]) aa)=_
  rw [E1,jY,zJ,<-List.replicate_succ',E2]
  rw [show k+1+xs.length=k+(x::xs).length by simp;omega]
def vX:∀{n:Nat}{x:PV},dQ n x->∀s,∃s1,wP (n+1) [x,x] s=.ok (.bl true) s1/\Old s s1
 | n,_,.int _ i=>λs=>by
  have A:y7 isT [.int i,.ty "int"] s=.ok (.bl true) s:=by kernel_rfl
  have B:y7 isT [.int i,.ty "bool"] s=.ok (.bl false) s:=by kernel_rfl
  have NB:(p9 (zt (y7 isT) (ze (zd 0) (ze (mC (.ty "bool")) zk)))) [some (.int i),some (.int i)] s=.ok (.bl true) s:=by
   unfold p9
   rw [zD (zP (zg rfl) rfl) B,zJ]
   rfl
  exact ⟨s,show oN (wP n) [.int i,.int i] s=.ok (.bl true) s from zV rfl (yP (yM (zY (zD (zP (zg rfl) rfl) A)) (zU (qF (zD (zP (zg rfl) rfl) A) (qF NB (zm (zg rfl) (zg rfl) (E8 i i true (by simp) _))))))),Old.refl _⟩
 | n,_,.str _ z=>λs=>by
  have A:y7 isT [.str z,.ty "int"] s=.ok (.bl false) s:=by kernel_rfl
  have B:y7 isT [.str z,.ty "str"] s=.ok (.bl true) s:=by kernel_rfl
  exact ⟨s,show oN (wP n) [.str z,.str z] s=.ok (.bl true) s from zV rfl (zw (yi (zY (zD (zP (zg rfl) rfl) A))) (yP (yM (zY (zD (zP (zg rfl) rfl) B)) (zU (qF (zD (zP (zg rfl) rfl) B) (zm (zg rfl) (zg rfl) (EW z z true (by simp) _))))))),Old.refl _⟩
 | n+1,_,.tup _ xs hl h=>λs=>by
  have A:y7 isT [.tup xs,.ty "int"] s=.ok (.bl false) s:=by kernel_rfl
  have B:y7 isT [.tup xs,.ty "str"] s=.ok (.bl false) s:=by kernel_rfl
  have C:y7 isT [.tup xs,.ty "tuple"] s=.ok (.bl true) s:=by kernel_rfl
  obtain ⟨s1,E1,o1⟩:=FP (fe:=zt (wP (n+1)) (ze (zd 0) (ze (zd 1) zk))) (en:=[some (.tup xs),some (.tup xs)]) xs 0 s λx hx s=>by
   obtain ⟨s1,E,o⟩:=vX (h x hx) s
   exact ⟨s1,zD (zP (zg rfl) (zg rfl)) E,o⟩
  have CC:(qB (og (ze (zd 0) (ze (zd 1) zk))) (zt (wP (n+1)) (ze (zd 0) (ze (zd 1) zk)))) [some (.tup xs),some (.tup xs)] s=.ok (.ref s1.length) (s1++[.lst (List.replicate (0+xs.length) (.bl true))]):=by
   rw [Ou]
   show (if (jS xs xs).length<=lim then wu _ _ (jS xs xs) [] s else .stuck)=_
   rw [zA (by simp [jS,lim];omega)]
   exact E1
  exact ⟨_,show oN (wP (n+1)) [.tup xs,.tup xs] s=.ok (.bl true) _ from zV rfl (zw (yi (zY (zD (zP (zg rfl) rfl) A))) (zw (yi (zY (zD (zP (zg rfl) rfl) B))) (yP (yM (zY (zD (zP (zg rfl) rfl) C)) (zw (yi (Dh (Di (zY (zD (zP (zg rfl) rfl) C))) (zY (zm (zD (zI (zg rfl)) (kN _)) (zD (zI (zg rfl)) (kN _)) (show ju (.int (xs.length:Int)) (.int (xs.length:Int)) s=.ok (.bl false) s from (OG _ _).trans (by simp)))))) (zU (zD (zI CC) (Fw (yj _ _))))))))),o1.trans (zQ _ _)⟩
section
variable {s:ae}{x y:Int}
def rD {n k:Nat}{xs:An}{v:PV}(h:s[n]?=some (.lst xs)) (hk:xs[k]?=some v):zn (.ref n) (.int (k:Int)) s=.ok v s:=by
 show yp s n _=_
 rw [yA h,bq hk]
 rfl
def dD:Sum Int Str->PV
 | .inl n=>bD (.int n)
 | .inr w=>d7 w
def vY (st:ae):wW (.int 10) (.int 18) st=.ok (.int 1000000000000000000) st:=by
 have cp:gj 10 18=true:=by decide
 have pw:((10:Int) ^ (18:Int).toNat)=1000000000000000000:=by decide
 show (if gj 10 18=true then Res.ok (PV.int (10 ^ (18:Int).toNat)) st else .stuck)=_
 rw [zA cp,pw]
abbrev eL (w:Str) (x y:Int):zc:=[some (.str w),some (.int x),some (.int y),none]
def UU (w:Str) (x y n:Int) (s:ae):Em [some (.str w),some (.int x),some (.int y),some (.int n)] s=.ok (.rt (dD (eX n))) s:=by
 have AB:mi [.int n] s=.ok (.int (if n<0 then -n else n)) s:=Oy _ _
 have GE:∀b,decide ((1000000000000000000:Int)<=(if n<0 then -n else n))=b->qd (.int (if n<0 then -n else n)) (.int 1000000000000000000) s=.ok (.bl b) s:=λb h=>by subst h;rfl
 have T:∀b,decide ((1000000000000000000:Int)<=(if n<0 then -n else n))=b->(mB (zh qd (zt mi (ze (zd 3) zk)) (zh wW (Ar 10) (Ar 18)))) [some (.str w),some (.int x),some (.int y),some (.int n)] s=.ok b s:=λb h=>zY (zm (zD (zI (zg rfl)) AB) (zm rfl rfl (vY _)) (GE b h))
 unfold eX
 by_cases h:n.natAbs<10 ^ 18
 ·rw [zA h]
  exact zw (yi (T false (jn (by split<;>omega)))) (zU (yl (zP rfl (zg rfl)) (by simp)))
 ·rw [zF h]
  exact yP (yM (T true (wm (by split<;>omega))) (zU (yl (zP rfl rfl) (by simp))))
def UW (k:Nat) (hk:k<3) (hm:bW x y=true) (s:ae):∃s1,uV (eL (cV k) x y) s=.ok (.rt (dD (tl k x y))) s1/\Old s s1:=by
 let s1:=s++[SO.lst [.int (x+y),.int (x-y),.int (x*y)]]
 have L:(y6 (ze (zh yx (zd 1) (zd 2)) (ze (zh wq (zd 1) (zd 2)) (ze (zh jq (zd 1) (zd 2)) zk)))) (eL (cV k) x y) s=.ok (.ref s.length) s1:=wf (wx (zm (zg rfl) (zg rfl) (qG _ _)) (zm (zg rfl) (zg rfl) (ml _ _)) (zm (zg rfl) (zg rfl) (mm _ _ hm))) (by simp)
 let s2:=s1++[SO.lst [.str "add", .str "sub", .str "mul"]]
 have iS:Old s s2:=(zQ _ _).trans (zQ _ _)
 have h2:s2[s.length]?=some (.lst [.int (x+y),.int (x-y),.int (x*y)]):=zQ _ _ _ _ (yj _ _)
 have I:(qD (y6 (kJ ["add", "sub", "mul"])) (zd 0)) (eL (cV k) x y) s1=.ok (.int (k:Int)) s2:=by
  unfold qD
  have M:(y6 (kJ ["add", "sub", "mul"])) (eL (cV k) x y) s1=.ok (.ref s1.length) s2:=rfl
  rw [M,zJ]
  show (yp s2 s1.length _).bind _=_
  rw [yA (yj _ _),zJ]
  show yp s2 s1.length _=_
  rw [yA (yj _ _)]
  match k,hk with
  | 0,_=>rfl
  | 1,_=>kernel_rfl
  | 2,_=>kernel_rfl
 have J:∀n:Int,[PV.int (x+y),.int (x-y),.int (x*y)][k]?=some (.int n)->uV (eL (cV k) x y) s=.ok (.rt (dD (eX n))) s2:=λn hn=>zw (zO (zm L I (rD h2 hn))) (UU _ _ _ _ _)
 match k,hk,J with
 | 0,_,J=>exact ⟨s2,J _ rfl,iS⟩
 | 1,_,J=>exact ⟨s2,J _ rfl,iS⟩
 | 2,_,J=>exact ⟨s2,J _ rfl,iS⟩
def FQ (w:Str) {a b:Bool} (h1:decide (w = "div")=a) (h2:decide (w = "rem")=b) (x y:Int) (s:ae):(wJ (mB (zh yc (zd 0) (As "div"))) (mB (zh yc (zd 0) (As "rem")))) (eL w x y) s=.ok (a||b) s:=by
 cases a with
 | true=>exact uN (zY (zm (zg rfl) rfl (eqs _ _ _ h1 _)))
 | false=>exact Dh (zY (zm (zg rfl) rfl (eqs _ _ _ h1 _))) (zY (zm (zg rfl) rfl (eqs _ _ _ h2 _)))
def vZ (w:Str) (h:w ≠ "down") (h':w ≠ "less") {X:Res Fl} (hX:Eo (eL w x y) s=X):Ep (eL w x y) s=X:=zw (yi (zY (zm (zg rfl) rfl (bN h _)))) (zw (yi (zY (zm (zg rfl) rfl (bN h' _)))) hX)
def UX (k:Nat) (hk:k<7) (hx:x.natAbs<10 ^ 18) (hy:y.natAbs<10 ^ 18) (s:ae):∃s1,kP [.str (cV k),.int x,.int y] s=.ok (dD (tl k x y)) s1/\Old s s1:=by
 have hm:bW x y=true:=by simp only [bW,Bool.or_eq_true,js,iY];omega
 have SM:∀k,k<3->decide (cV k = "div")=false->decide (cV k = "rem")=false->cV k ≠ "down" -> cV k ≠ "less" -> ∃s1,kP [.str (cV k),.int x,.int y] s=.ok (dD (tl k x y)) s1/\Old s s1:=λk h3 a b c d=>by
  obtain ⟨s1,E,o⟩:=UW k h3 hm s
  exact ⟨s1,zV rfl (vZ _ c d (zw (yi (FQ _ a b x y s)) E)),o⟩
 have DR:∀(w:Str) (b:Bool),decide (w = "div")=!b->decide (w = "rem")=b->w ≠ "down" -> w ≠ "less" -> ∃s1,kP [.str w,.int x,.int y] s=.ok (dD (if y=0 then .inr "nought" else .inl (if b then yU x y else yY x y))) s1/\Old s s1:=λw b e1 e2 c d=>by
  have T:(wJ (mB (zh yc (zd 0) (As "div"))) (mB (zh yc (zd 0) (As "rem")))) (eL w x y) s=.ok true s:=(FQ w e1 e2 x y s).trans (by cases b<;>rfl)
  by_cases h:y=0
  ·rw [zA h]
   exact ⟨s,zV rfl (vZ _ c d (yP (yM T (yP (yM (zY (zm (zg rfl) rfl (gm true (by simp [h]) _))) (zU (yl (zP rfl rfl) (by simp)))))))),Old.refl _⟩
  ·rw [zF h]
   let s1:=s++[SO.lst [.int (yY x y),.int (yU x y)]]
   have N:(zt nX (ze (zh yc (zd 0) (As "rem")) zk)) (eL w x y) s1=.ok (.int (((if b then 1 else 0):Nat):Int)) s1:=zD (zI (zm (zg rfl) rfl (eqs _ _ _ e2 _))) (by cases b<;>rfl)
   have I:zn (.ref s.length) (.int (((if b then 1 else 0):Nat):Int)) s1=.ok (.int (if b then yU x y else yY x y)) s1:=rD (yj _ _) (by cases b<;>rfl)
   exact ⟨s1,zV rfl (vZ _ c d (yP (yM T (zw (yi (zY (zm (zg rfl) rfl (gm false (by simp [h]) _)))) (zU (yl (zP rfl (zm (wf (zP (zm (zg rfl) (zg rfl) (oG _ _ h (by omega))) (zm (zg rfl) (zg rfl) (uP _ _ h))) (by simp)) N I)) (by simp))))))),zQ _ _⟩
 match k,hk with
 | 0,_=>exact SM 0 (by omega) (by decide +kernel) (by decide +kernel) (by decide +kernel) (by decide +kernel)
 | 1,_=>exact SM 1 (by omega) (by decide +kernel) (by decide +kernel) (by decide +kernel) (by decide +kernel)
 | 2,_=>exact SM 2 (by omega) (by decide +kernel) (by decide +kernel) (by decide +kernel) (by decide +kernel)
 | 3,_=>exact DR "div" false (by decide +kernel) (by decide +kernel) (by decide +kernel) (by decide +kernel)
 | 4,_=>exact DR "rem" true (by decide +kernel) (by decide +kernel) (by decide +kernel) (by decide +kernel)
 | 5,_ =>
  have ne:("less" : Str) ≠ "down" := by decide +kernel
  exact ⟨s,zV rfl (zw (yi (zY (zm (zg rfl) rfl (bN ne _)))) (yP (yM (zY (zm (zg rfl) rfl (dO _))) (zU (yl (zP rfl (zD (zI (zm (zg rfl) (zg rfl) (uQ _ _))) (Mu _))) (by simp)))))),Old.refl _⟩
 | 6,_ =>
  show ∃s1,kP [.str "down", .int x,.int y] s=.ok (dD (if x<1 then .inr "low" else .inl (x-1))) s1/\Old s s1
  by_cases h:x<1
  ·rw [zA h]
   exact ⟨s,zV rfl (yP (yM (zY (zm (zg rfl) rfl (dO _))) (yP (yM (zY (zm (zg rfl) rfl (iN true (by simp [h]) _))) (zU (yl (zP rfl rfl) (by simp))))))),Old.refl _⟩
  ·rw [zF h]
   exact ⟨s,zV rfl (yP (yM (zY (zm (zg rfl) rfl (dO _))) (zw (yi (zY (zm (zg rfl) rfl (iN false (by simp [h]) _)))) (zU (yl (zP rfl (zm (zg rfl) rfl (ml _ _))) (by simp)))))),Old.refl _⟩
 | k+7,h=>omega
end
abbrev dI (D:Dv):An:=D.map λp=>.int p.2
def FR (w:Str):∀D:Dv,((dK D).zip (dI D)).lookup w=(D.lookup w).map PV.int
 | []=>rfl
 | (y,n)::D=>by
  show ((y::dK D).zip (.int n::dI D)).lookup w=_
  rw [List.zip_cons_cons,yE,yE]
  cases w==y with
  | true=>rfl
  | false=>exact FR w D
def FU {g:PV->zc->Option zc}{body:Aj}{r n i:Nat}{xs:An}{x:PV}{e e1 e2:zc}{s s1:ae}{X:Res Fl}(h:s[r]?=some (.lst xs)) (hx:xs[i]?=some x) (hg:g x e=some e1) (hb:body e1 s=.ok (.nx e2) s1) (hX:forR g body r n (i+1) e2 s1=X):forR g body r (n+1) i e s=X:=by
 unfold forR
 rw [yA h,hx]
 simp only
 rw [hg]
 simp only
 rw [hb,zJ]
 exact hX
def UY {g:PV->zc->Option zc}{body:Aj}{r n i:Nat}{xs:An}{x:PV}{e e1:zc}{s s1:ae}{v:PV}(h:s[r]?=some (.lst xs)) (hx:xs[i]?=some x) (hg:g x e=some e1) (hb:body e1 s=.ok (.rt v) s1):forR g body r (n+1) i e s=.ok (.rt v) s1:=by
 unfold forR
 rw [yA h,hx]
 simp only
 rw [hg]
 simp only
 rw [hb,zJ]
def UZ {g:PV->zc->Option zc}{body:Aj}{r n i:Nat}{xs:An}{e:zc}{s:ae}(h:s[r]?=some (.lst xs)) (hx:xs[i]?=none):forR g body r (n+1) i e s=.ok (.nx e) s:=by
 unfold forR
 rw [yA h,hx]
section
variable {s:ae}{d:Nat}{D:Dv}{a:At}{x:Int}
def rE (h:s[d]?=some (.dic (dK D) (dI D))) (hv:val D a=some x):iF [a.v,.ref d] s=.ok (.int x) s:=by
 cases a with
 | is n=>cases hv;exact zV rfl (zw (yi (q0 rfl (bN pd _))) (zU (zm (zg rfl) rfl yv)))
 | of w =>
  have hv:D.lookup w=some x:=hv
  exact zV rfl (yP (yM (q0 rfl (dO _)) (zU (zm (zg rfl) (zm (zg rfl) rfl yv) (wB h (by rw [FR,hv];rfl))))))
def U0 (k:Nat) (a b:PV) (s:ae):zn (.tup (arg k a b)) (.int 0) s=.ok a s:=by
 unfold arg
 split<;>exact yJ
def U3 (k:Nat) (a b:PV) (s:ae):zn (.tup (arg k a b)) (.int (-1)) s=.ok (if k=6 then a else b) s:=by
 have Q:∀(l:An) (v:PV),l[l.length-1]?=some v->zn (.tup l) (.int (-1)) s=.ok v s:=λl v h=>(congrArg (λz=>bA z s) (gh h)).trans rfl
 unfold arg
 by_cases h:k=6
 ·rw [zA h,zA h];exact Q _ _ rfl
 ·rw [zF h,zF h];exact Q _ _ rfl
end
abbrev bE:Aj:=(zp (zK 4 (zt iF (ze (zh zn (zh zn (zd 3) (Ar 3)) (Ar 0)) (ze (zd 2) zk))))
  (zp (zK 5 (zt kP (ze (zh zn (zd 3) (Ar 2)) (ze (zd 4) (ze (zt iF (ze (zh zn (zh zn (zd 3) (Ar 3)) (yz nQ (Ar 1))) (ze (zd 2) zk))) zk)))))
  (zp (zS (mB (zh yc (zh zn (zd 5) (Ar 0)) (As "fail")))
  (zL (zd 5))
  zX)
  (yT (zd 2) (zh zn (zd 3) (Ar 1)) (zh zn (zd 5) (Ar 1))))))
abbrev eE (S:Nat) (av:PV) (d:Nat) (z3 z4 z5:Ao):zc:=[Au S,some av,Au d,z3,z4,z5]
def U4:("is" : Str) ≠ "fail" := by decide +kernel
section
variable {S d:Nat}{av:PV}{D:Dv}{t:St}{x y:Int}{z4 z5:Ao}{s:ae}
def FV (h:s[d]?=some (.dic (dK D) (dI D))) (ha:val D t.a=some x) (hb:val D t.b=some y) (bx:x.natAbs<10 ^ 18) (g6:y.natAbs<10 ^ 18) (hk:t.k<7):∃s1,Old s s1/\∀{X:Res Fl},(zp (zS (mB (zh yc (zh zn (zd 5) (Ar 0)) (As "fail"))) (zL (zd 5)) zX) (yT (zd 2) (zh zn (zd 3) (Ar 1)) (zh zn (zd 5) (Ar 1)))) (eE S av d (some t.v) (some (.int x)) (some (dD (tl t.k x y)))) s1=X->bE (eE S av d (some t.v) z4 z5) s=X:=by
 have FI:zn t.v (.int 3) s=.ok (.tup (arg t.k t.a.v t.b.v)) s:=vH
 have LA:∃y',iF [if t.k=6 then t.a.v else t.b.v,.ref d] s=.ok (.int y') s/\y'.natAbs<10 ^ 18/\tl t.k x y'=tl t.k x y:=by
  by_cases q:t.k=6
  ·rw [zA q]
   exact ⟨x,rE h ha,bx,by rw [q];rfl⟩
  ·rw [zF q]
   exact ⟨y,rE h hb,g6,rfl⟩
 obtain ⟨y',L1,L2,L3⟩:=LA
 obtain ⟨s1,E1,o1⟩:=UX t.k hk bx L2 s
 rw [L3] at E1
 refine ⟨s1,o1,λhX=>zw (zO (zD (zP (zm (zm (zg rfl) rfl FI) rfl (U0 _ _ _ _)) (zg rfl)) (rE h ha))) (zw (zO (zD (wx (zm (zg rfl) rfl jz) (zg rfl) (zD (zP (zm (zm (zg rfl) rfl FI) (wO rfl rfl) (U3 _ _ _ _)) (zg rfl)) L1)) E1)) hX)⟩
def U5 {n:Int}(h:s[d]?=some (.dic (dK D) (dI D))) (ha:val D t.a=some x) (hb:val D t.b=some y) (bx:x.natAbs<10 ^ 18) (g6:y.natAbs<10 ^ 18) (hk:t.k<7) (ht:tl t.k x y=.inl n) (hz:t.z∉dK D) (hD:D.length<=900):∃eY kY s1,bE (eE S av d (some t.v) z4 z5) s=.ok (.nx (eE S av d (some t.v) eY kY)) s1/\s1[d]?=some (.dic (dK (D++[(t.z,n)])) (dI (D++[(t.z,n)])))/\Kx [d] s s1:=by
 obtain ⟨s1,o1,E⟩:=FV (S:=S) (av:=av) (z4:=z4) (z5:=z5) h ha hb bx g6 hk
 rw [ht] at E
 have P:=wy (wz (z:=t.z) (x:=.int n) (xs:=dI D) hz) (fo:=zd 2) (fi:=zh zn (zd 3) (Ar 1)) (fv:=zh zn (zd 5) (Ar 1)) (e:=eE S av d (some t.v) (some (.int x)) (some (bD (.int n)))) (s:=s1) (s1:=s1) (zm (zg rfl) rfl yv) (zg rfl) (zm (zg rfl) rfl yv) (o1 _ _ h) (by simp;omega)
 refine ⟨_,_,_,E (zw (yi (q0 rfl (bN U4 _))) P),?_,o1.kx.trans (jA (by simp))⟩
 rw [yW (ym (o1 _ _ h))]
 simp [dK,dI]
def U6 {w:Str}(h:s[d]?=some (.dic (dK D) (dI D))) (ha:val D t.a=some x) (hb:val D t.b=some y) (bx:x.natAbs<10 ^ 18) (g6:y.natAbs<10 ^ 18) (hk:t.k<7) (ht:tl t.k x y=.inr w):∃s1,bE (eE S av d (some t.v) z4 z5) s=.ok (.rt (d7 w)) s1/\Old s s1:=by
 obtain ⟨s1,o1,E⟩:=FV (S:=S) (av:=av) (z4:=z4) (z5:=z5) h ha hb bx g6 hk
 rw [ht] at E
 exact ⟨s1,E (yP (yM (q0 rfl (dO _)) (zU (zg rfl)))),o1⟩
end
def U7 {S d:Nat}{av:PV}{xs:An}(ne:S≠d) {D:Dv}{ss:List St}{r:Sum Dv Str}(h:Fo D ss r):∀{s:ae}{z3 z4 z5:Ao}(n i:Nat),s[S]?=some (.lst xs)->s[d]?=some (.dic (dK D) (dI D))->xs.drop i=ss.map St.v->D.length+ss.length<=900->ss.length<n ->
  match r with
  | .inl D'=>∃kX eY kY s1,forR (gN 3) bE S n i (eE S av d z3 z4 z5) s=.ok (.nx (eE S av d kX eY kY)) s1/\s1[d]?=some (.dic (dK D') (dI D'))/\Kx [d] s s1
  | .inr w=>∃s1,forR (gN 3) bE S n i (eE S av d z3 z4 z5) s=.ok (.rt (d7 w)) s1/\Kx [d] s s1:=by
 have dr:∀{i:Nat} {t:St} {ss:List St},xs.drop i=(t::ss).map St.v->xs[i]?=some t.v/\xs.drop (i+1)=ss.map St.v:=λ{i t ss} q=>by
  have h0:(xs.drop i)[0]?=some t.v:=by rw [q];rfl
  rw [List.getElem?_drop] at h0
  refine ⟨by simpa using h0,?_⟩
  rw [<-List.drop_drop,q];rfl
 induction h with
 | nil D =>
  intro s z3 z4 z5 n i hS hd q _ hn
  obtain ⟨n,rfl⟩:∃j,n=j+1:=⟨n-1,by omega⟩
  have:xs[i]?=none:=by
   have:=congrArg List.length q
   simp at this
   exact rV (by omega)
  exact ⟨z3,z4,z5,s,UZ hS this,hd,Kx.refl _ _⟩
 | @ok D t ss r x y m h1 h2 h3 h4 h5 h6 h7 hr ih =>
  intro s z3 z4 z5 n i hS hd q hl hn
  obtain ⟨n,rfl⟩:∃j,n=j+1:=⟨n-1,by omega⟩
  obtain ⟨q1,q2⟩:=dr q
  simp only [wF] at hl hn
  obtain ⟨w4,w5,s1,E,d1,k1⟩:=U5 (S:=S) (av:=av) (z4:=z4) (z5:=z5) hd h1 h2 h3 h4 h5 h6 h7 (by omega)
  have I:=ih (s:=s1) (z3:=some t.v) (z4:=w4) (z5:=w5) n (i+1) (k1 _ _ (by simpa using ne) hS) d1 q2 (by simp;omega) (by omega)
  cases r with
  | inl D' =>
   obtain ⟨a,b,c,s2,E2,d2,k2⟩:=I
   exact ⟨a,b,c,s2,FU hS q1 rfl E E2,d2,k1.trans k2⟩
  | inr w =>
   obtain ⟨s2,E2,k2⟩:=I
   exact ⟨s2,FU hS q1 rfl E E2,k1.trans k2⟩
 | @no D t ss x y w h1 h2 h3 h4 h5 h6 =>
  intro s z3 z4 z5 n i hS hd q hl hn
  obtain ⟨n,rfl⟩:∃j,n=j+1:=⟨n-1,by omega⟩
  obtain ⟨q1,q2⟩:=dr q
  obtain ⟨s1,E,o⟩:=U6 (S:=S) (av:=av) (z4:=z4) (z5:=z5) hd h1 h2 h3 h4 h5 h6
  exact ⟨s1,UY hS q1 rfl E,o.kx⟩
def U8 {S:Nat}{ss:List St}{r:Sum Dv Str}{a:At}{e:PV}{s:ae}(h:Fo [] ss r) (he:En r a e) (hl:ss.length<=900) (hS:s[S]?=some (.lst (ss.map St.v))):∃s1,uW [.ref S,a.v] s=.ok e s1/\Old s s1:=by
 let t:=s++[SO.dic [] []]
 have tS:t[S]?=some (.lst (ss.map St.v)):=zQ _ _ _ _ hS
 have lS:=ym hS
 have I:=U7 (S:=S) (d:=s.length) (av:=a.v) (xs:=ss.map St.v) (by omega) h (s:=t) (z3:=none) (z4:=none) (z5:=none) (lim+1) 0 tS (yj _ _) rfl (by simp;omega) (by simp [lim];omega)
 have ol:∀{s1:ae},Kx [s.length] t s1->Old s s1:=λk m so q=>k _ _ (by simp;have:=ym q;omega) (zQ _ _ _ _ q)
 cases he with
 | ok D a x hv =>
  obtain ⟨z3,z4,z5,s1,E,d1,k1⟩:=I
  exact ⟨s1,zV rfl (zw (zO rfl) (zw (wA (zg rfl) tS E) (zU (yl (zP rfl (yl (zP rfl (zD (zP (zg rfl) (zg rfl)) (rE d1 hv))) (by simp))) (by simp))))),ol k1⟩
 | no w a =>
  obtain ⟨s1,E,k1⟩:=I
  exact ⟨s1,zV rfl (zw (zO rfl) (yP (wA (zg rfl) tS E))),ol k1⟩
def WA (L:Ad):At->Prop
 | .is n=>n.natAbs<10 ^ 18
 | .of w=>w∈L
inductive WS:List Str->List St->Prop
 | nil (L:Ad):WS L []
 | cons {L:Ad} {t:St} {ss:List St}:WA L t.a->WA L t.b->t.k<7->t.z∉L->WS (L++[t.z]) ss->WS L (t::ss)
def U9 {L:Ad}{ss:List St}{t:St}(h:WS L ss):WA (L++ss.map (·.z)) t.a->WA (L++ss.map (·.z)) t.b->t.k<7->t.z∉L++ss.map (·.z)->WS L (ss++[t]):=by
 induction h with
 | nil L=>intro a b c d;rw [List.map_nil,List.append_nil] at a b d;exact .cons a b c d (.nil _)
 | @cons L u ss h1 h2 h3 h4 _ ih =>
  intro a b c d
  have e:L++(u::ss).map (·.z)=(L++[u.z])++ss.map (·.z):=by simp
  rw [e] at a b d
  exact .cons h1 h2 h3 h4 (ih a b c d)
def v3 (D:Dv):Prop:=∀p∈D,p.2.natAbs<10 ^ 18
def FW:∀{D:Dv}{w:Str},w∈dK D->∃x,D.lookup w=some x/\(w,x)∈D
 | (y,n)::D,w,h=>by
  by_cases q:w=y
  ·subst q
   exact ⟨n,by simp [yE],y3 ..⟩
  ·have h':w∈dK D:=by
    rcases yL.mp h with z|z
    ·exact absurd z q
    ·exact z
   obtain ⟨x,e1,e2⟩:=FW h'
   refine ⟨x,?_,jh _ e2⟩
   rw [yE,beq_eq_false_iff_ne.mpr q]
   exact e1
def v5 {D:Dv}{a:At}(h:WA (dK D) a) (b:v3 D):∃x,val D a=some x/\x.natAbs<10 ^ 18:=by
 cases a with
 | is n=>exact ⟨n,rfl,h⟩
 | of w =>
  obtain ⟨x,e1,e2⟩:=FW h
  exact ⟨x,e1,b _ e2⟩
def U_ {L:Ad}{ss:List St}(h:WS L ss):∀D:Dv,dK D=L->v3 D->∃r,Fo D ss r/\∀D',r=.inl D'->dK D'=L++ss.map (·.z)/\v3 D':=by
 induction h with
 | nil L=>exact λD e b=>⟨.inl D,.nil D,λD' q=>by cases q;exact ⟨by simp [<-e],b⟩⟩
 | @cons L t ss h1 h2 h3 h4 _ ih =>
  intro D e b
  rw [<-e] at h1 h2 h4
  obtain ⟨x,vx,bx⟩:=v5 h1 b
  obtain ⟨y,vy,g6⟩:=v5 h2 b
  cases ht:tl t.k x y with
  | inr w=>exact ⟨.inr w,.no vx vy bx g6 h3 ht,λD' q=>nomatch q⟩
  | inl n =>
   obtain ⟨r,hr,H⟩:=ih (D++[(t.z,n)]) (by simp [<-e]) (λp hp=>by
    rcases mK.mp hp with q|q
    ·exact b p q
    ·rw [List.mem_singleton.mp q];exact Uj bx g6 ht)
   exact ⟨r,.ok vx vy bx g6 h3 ht h4 hr,λD' q=>by
    obtain ⟨a1,a2⟩:=H D' q
    exact ⟨by rw [a1];simp,a2⟩⟩
def Va {ss:List St}{a:At}(h:WS [] ss) (ha:WA (ss.map (·.z)) a):∃r e,Fo [] ss r/\En r a e:=by
 obtain ⟨r,hr,H⟩:=U_ h [] rfl (λ_ h=>nomatch h)
 cases r with
 | inr w=>exact ⟨_,_,hr,.no w a⟩
 | inl D =>
  obtain ⟨a1,a2⟩:=H D rfl
  rw [List.nil_append] at a1
  rw [<-a1] at ha
  obtain ⟨x,vx,_⟩:=v5 ha a2
  exact ⟨_,_,hr,.ok D a x vx⟩
abbrev iT (ns:List Int):PV:=.frl (ns.map PV.int)
abbrev nV (n:Nat):PV:=.int (n:Int)
def FX (ns:List Int) (k:Nat) (st:ae):∃c,my [iT ns,.int (k:Int)] st=.ok (.int c) st:=by
 have L:yq [iT ns] st=.ok (.int ns.length) st:=by rw [Ot,jV]
 by_cases h:k<ns.length
 ·have a:bI (ns.map PV.int) k=some (.int (ns[k]'h)):=bq (by rw [jr,yu h];rfl)
  have ix:zn (iT ns) (.int (k:Int)) st=.ok (.int (ns[k]'h)) st:=by
   show bA (bI (ns.map PV.int) k) st=_
   rw [a];rfl
  exact ⟨_,zV rfl (yP (yM (zY (zm (zg rfl) (zD (zI (zg rfl)) L) (iN true (by simp;omega) _))) (zU (zm (zg rfl) (zg rfl) ix))))⟩
 ·have cm:bW 5 (k:Int)=true:=by simp only [bW,Bool.or_eq_true,js,iY];omega
  exact ⟨_,zV rfl (zw (yi (zY (zm (zg rfl) (zD (zI (zg rfl)) L) (iN false (by simp;omega) _)))) (zU (zm (zm rfl (zg rfl) (mm _ _ cm)) rfl (qG _ _))))⟩
def g7 {x:Int}{j:Nat}(hj:0<j) (st:ae):∃b:Nat,b<j/\yH (.int x) (.int (j:Int)) st=.ok (nV b) st:=by
 obtain ⟨b,hb,e⟩:=q_ x j hj
 exact ⟨b,hb,(uP _ _ (by omega)).trans (by rw [e])⟩
def FY {M n:Nat}{L:Ad}{s:ae}(hM:s[M]?=some (.lst (L.map PV.str))):∃a:At,iE [nV n,.ref M] s=.ok a.v s/\WA L a:=by
 have LN:yq [.ref M] s=.ok (nV L.length) s:=(bt hM).trans (by rw [jV])
 have D3:jF (nV n) (.int 3) s=.ok (nV (n/3)) s:=EU n 3 (by decide) (by decide)
 have M3:yH (nV n) (.int 3) s=.ok (nV (n%3)) s:=rg n 3 (by decide)
 have T1:∀b,decide ((0:Int)<((n%3:Nat):Int))=b->(mB (zh jo (zh yH (zd 0) (Ar 3)) (Ar 0))) [some (nV n),Au M] s=.ok b s:=λb h=>zY (zm (zm (zg rfl) rfl M3) rfl (iO b h _))
 have T2:∀b,decide ((0:Int)<(L.length:Int))=b->(mB (zh jo (zt yq (ze (zd 1) zk)) (Ar 0))) [some (nV n),Au M] s=.ok b s:=λb h=>zY (zm (zD (zI (zg rfl)) LN) rfl (iO b h _))
 by_cases q:0<n%3/\0<L.length
 ·obtain ⟨q1,q2⟩:=q
  have lt:(n/3)%L.length<L.length:=Nat.mod_lt _ q2
  have hw:L[(n/3)%L.length]?=some (L[(n/3)%L.length]'lt):=yu lt
  have I:zn (.ref M) (nV ((n/3)%L.length)) s=.ok (.str (L[(n/3)%L.length]'lt)) s:=rD hM (by rw [jr,hw];rfl)
  exact ⟨.of (L[(n/3)%L.length]'lt),zV rfl (yP (yM (wv (T1 true (wm (by omega))) (T2 true (wm (by omega)))) (zU (yl (zP rfl (zm (zg rfl) (zm (zm (zg rfl) rfl D3) (zD (zI (zg rfl)) LN) (rg _ _ q2)) I)) (by simp))))),List.getElem_mem lt⟩
 ·have T:(jE (mB (zh jo (zh yH (zd 0) (Ar 3)) (Ar 0))) (mB (zh jo (zt yq (ze (zd 1) zk)) (Ar 0)))) [some (nV n),Au M] s=.ok false s:=by
   by_cases q1:0<n%3
   ·exact wv (T1 true (wm (by omega))) (T2 false (jn (by omega)))
   ·exact mj (T1 false (jn (by omega)))
  have T3:∀b,decide (((n/3%5:Nat):Int)=0)=b->(mB (zh yc (zh yH (zh jF (zd 0) (Ar 3)) (Ar 5)) (Ar 0))) [some (nV n),Au M] s=.ok b s:=λb h=>zY (zm (zm (zm (zg rfl) rfl D3) rfl (rg (n/3) 5 (by decide))) rfl (gm b h _))
  by_cases q3:n/3%5=0
  ·have cm:bW (n:Int) 465661287=true:=by simp only [bW,Bool.or_eq_true,js,iY];omega
   have c2:bW 2 1000000000000000000=true:=by decide
   obtain ⟨b,hb,MB⟩:=g7 (x:=(n:Int)*465661287) (j:=1999999999999999999) (by decide) s
   have MB:yH (.int ((n:Int)*465661287)) (.int (2*1000000000000000000-1)) s=.ok (nV b) s:=MB
   refine ⟨.is ((b:Int)-999999999999999999),zV rfl (zw (yi T) (yP (yM (T3 true (wm (by omega))) (zU (yl (zP rfl (zm (zm (zm (zg rfl) rfl (mm _ _ cm)) (zm (zm rfl (zm rfl rfl (vY _)) (mm _ _ c2)) rfl (ml _ _)) MB) (zm (zm rfl rfl (vY _)) rfl (ml _ _)) (ml _ _))) (by simp)))))),?_⟩
   show ((b:Int)-999999999999999999).natAbs<10 ^ 18
   omega
  ·have WE:n/15%41<41:=Nat.mod_lt _ (by decide)
   refine ⟨.is (((n/15%41:Nat):Int)-20),zV rfl (zw (yi T) (zw (yi (T3 false (jn (by omega)))) (zU (yl (zP rfl (zm (zm (zm (zg rfl) rfl (EU n 15 (by decide) (by decide))) rfl (rg (n/15) 41 (by decide))) rfl (ml _ _))) (by simp))))),?_⟩
   show (((n/15%41:Nat):Int)-20).natAbs<10 ^ 18
   omega
def eZ (z:Str) (i:Nat):Str:=z++d8 i
def fj (z:Str) (n:Nat):Ad:=(List.range n).map (eZ z)
def FZ {a:Str}{x y:Str}(h:a++x=a++y):x=y:=by
 have:=congrArg (λz:Str=>z.cps.toList) h
 simp only [PySem.Str.cps_append,Array.toList_append] at this
 have:=List.append_cancel_left this
 rw [<-ES x,<-ES y,this]
def Vb {z:Str}{i j:Nat}(h:eZ z i=eZ z j):i=j:=FF (FZ h)
def Vc (z:Str) (n:Nat):eZ z n∉fj z n:=λh=>by
 obtain ⟨j,hj,e⟩:=wE.mp h
 have:=Vb e
 have:=mL.mp hj
 omega
def F0 (z:Str) (n:Nat):fj z (n+1)=fj z n++[eZ z n]:=by simp [fj,List.range_succ]
abbrev F8:Ad:=["add", "sub", "mul", "div", "rem", "less", "down"]
def Vd (k:Nat) (h:k<7):(F8.map PV.str)[k]?=some (.str (cV k)):=by
 match k,h with
 | 0,_=>rfl
 | 1,_=>rfl
 | 2,_=>rfl
 | 3,_=>rfl
 | 4,_=>rfl
 | 5,_=>rfl
 | 6,_=>rfl
 | k+7,h=>omega
def Ve (k:Nat) (h:k<7):decide (cV k = "down")=decide (k=6):=by
 match k,h with
 | 0,_=>decide +kernel
 | 1,_=>decide +kernel
 | 2,_=>decide +kernel
 | 3,_=>decide +kernel
 | 4,_=>decide +kernel
 | 5,_=>decide +kernel
 | 6,_=>decide +kernel
 | k+7,h=>omega
abbrev bT:Aj:=(zp (zK 6 (zh zn (y6 (kJ ["add", "sub", "mul", "div", "rem", "less", "down"])) (zh yH (zd 5) (Ar 7))))
  (zp (zK 7 (zW (ze (zt iE (ze (zh yH (zh jF (zd 5) (Ar 7)) (Ar 2147483647)) (ze (zd 3) zk))) zk)))
  (zp (zS (mB (zh ju (zd 6) (As "down")))
  (zK 7 (zh yx (zd 7) (zW (ze (zt iE (ze (zh yH (zh yx (zh yx (zh jq (zd 5) (Ar 48271)) (zh jq (Ar 7919) (zd 4))) (Ar 1)) (Ar 2147483647)) (ze (zd 3) zk))) zk))))
  zX)
  (zp (j7 (w6 wZ (zd 3) (zh yx (zd 1) (zt wc (ze (zd 4) zk)))))
  (j7 (w6 wZ (zd 2) (zW (ze (As "let") (ze (zh yx (zd 1) (zt wc (ze (zd 4) zk))) (ze (zd 6) (ze (zd 7) zk)))))))))))
abbrev eT (ns:List Int) (z:Str) (S M:Nat) (z4 z5 z6 z7:Ao):zc:=[some (iT ns),some (.str z),Au S,Au M,z4,z5,z6,z7]
structure Dr (z:Str) (S M:Nat) (ss:List St) (s0 s:ae):Prop where
 at_S:s[S]?=some (.lst (ss.map St.v))
 at_M:s[M]?=some (.lst ((fj z ss.length).map PV.str))
 w:WS [] ss
 nm:ss.map (·.z)=fj z ss.length
 k:Kx [S,M] s0 s
def F9 {z:Str}(hz:z.length<=9) {i:Nat}(hi:i<=900) (s:ae):yx (.str z) (.str (d8 i)) s=.ok (.str (eZ z i)) s:=ad _ _ (by have:=vV (n:=i) (by omega);omega) s
def Vf {ns:List Int}{z:Str}{S M:Nat}{ss:List St}{s0 s:ae}{z6 z7:Ao}(hz:z.length<=9) (ne:S≠M) (hl:ss.length<=900) (G:Dr z S M ss s0 s) (c:Int) (hL:s0.length<=s.length) (lS:S<s0.length) (lM:M<s0.length):∃t v7 v8 s1,bT (eT ns z S M (some (nV ss.length)) (some (.int c)) z6 z7) s=.ok (.nx (eT ns z S M (some (nV ss.length)) (some (.int c)) v7 v8)) s1/\Dr z S M (ss++[t]) s0 s1/\s0.length<=s1.length:=by
 let i:=ss.length
 let s1:=s++[SO.lst (F8.map PV.str)]
 have o1:Old s s1:=zQ _ _
 have S1:=o1 _ _ G.at_S
 have M1:=o1 _ _ G.at_M
 obtain ⟨k,hk,MK⟩:=g7 (x:=c) (j:=7) (by decide) s1
 have W:(zh zn (y6 (kJ ["add", "sub", "mul", "div", "rem", "less", "down"])) (zh yH (zd 5) (Ar 7))) (eT ns z S M (some (nV i)) (some (.int c)) z6 z7) s=.ok (.str (cV k)) s1:=zm (s1:=s1) (x:=.ref s.length) rfl (zm (zg rfl) rfl MK) (rD (yj _ _) (Vd k hk))
 obtain ⟨n1,_,MN⟩:=g7 (x:=yY c 7) (j:=2147483647) (by decide) s1
 obtain ⟨a,A,wa⟩:=FY (n:=n1) M1
 have A7:(zW (ze (zt iE (ze (zh yH (zh jF (zd 5) (Ar 7)) (Ar 2147483647)) (ze (zd 3) zk))) zk)) (eT ns z S M (some (nV i)) (some (.int c)) (some (.str (cV k))) z7) s1=.ok (.tup [a.v]) s1:=yl (zI (zD (zP (zm (zm (zg rfl) rfl (oG _ _ (by decide) (by decide))) rfl MN) (zg rfl)) A)) (by simp)
 have NE:∀b,decide (k=6)=b->(mB (zh ju (zd 6) (As "down"))) (eT ns z S M (some (nV i)) (some (.int c)) (some (.str (cV k))) (some (.tup [a.v]))) s1=.ok (!b) s1:=λb h=>zY (zm (zg rfl) rfl ((uR _ _).trans (by rw [Ve k hk,h])))
 have AB:∃b:At,WA (fj z i) b/\(zS (mB (zh ju (zd 6) (As "down"))) (zK 7 (zh yx (zd 7) (zW (ze (zt iE (ze (zh yH (zh yx (zh yx (zh jq (zd 5) (Ar 48271)) (zh jq (Ar 7919) (zd 4))) (Ar 1)) (Ar 2147483647)) (ze (zd 3) zk))) zk)))) zX) (eT ns z S M (some (nV i)) (some (.int c)) (some (.str (cV k))) (some (.tup [a.v]))) s1=.ok (.nx (eT ns z S M (some (nV i)) (some (.int c)) (some (.str (cV k))) (some (.tup (arg k a.v b.v))))) s1:=by
  by_cases h6:k=6
  ·refine ⟨a,wa,?_⟩
   have e:arg k a.v a.v=[a.v]:=by unfold arg;rw [zA h6]
   rw [e]
   exact yi (NE true (by simp [h6]))
  ·have c1:bW c 48271=true:=by simp only [bW,Bool.or_eq_true,js,iY];omega
   have c2:bW 7919 (i:Int)=true:=by simp only [bW,Bool.or_eq_true,js,iY];omega
   obtain ⟨n2,_,MM⟩:=g7 (x:=c*48271+7919*(i:Int)+1) (j:=2147483647) (by decide) s1
   obtain ⟨b,B,wb⟩:=FY (n:=n2) M1
   refine ⟨b,wb,?_⟩
   have e:arg k a.v b.v=[a.v]++[b.v]:=by unfold arg;rw [zF h6];rfl
   rw [e]
   exact yM (NE false (by simp [h6])) (zO (zm (zg rfl) (yl (zI (zD (zP (zm (zm (zm (zm (zg rfl) rfl (mm _ _ c1)) (zm rfl (zg rfl) (mm _ _ c2)) (qG _ _)) rfl (qG _ _)) rfl MM) (zg rfl)) B)) (by simp)) (mF (by simp))))
 obtain ⟨b,wb,E7⟩:=AB
 let t:St:=⟨eZ z i,k,a,b⟩
 have NM:∀{e6 e7:Ao} (s:ae),(zh yx (zd 1) (zt wc (ze (zd 4) zk))) (eT ns z S M (some (nV i)) (some (.int c)) e6 e7) s=.ok (.str (eZ z i)) s:=λs=>zm (zg rfl) (zD (zI (zg rfl)) (vW (by omega) s)) (F9 hz hl s)
 let s2:=s1.set M (.lst ((fj z i).map PV.str++[.str (eZ z i)]))
 have Vg:wZ (.ref M) (.str (eZ z i)) s1=.ok .non s2:=EV M1 (by simp [fj];omega)
 have S2:s2[S]?=some (.lst (ss.map St.v)):=by show (s1.set M _)[S]?=_;rw [jd (yw ne)];exact S1
 have M2:s2[M]?=some (.lst ((fj z i).map PV.str++[.str (eZ z i)])):=yW (ym M1)
 let s3:=s2.set S (.lst (ss.map St.v++[t.v]))
 have Vh:wZ (.ref S) t.v s2=.ok .non s3:=EV S2 (by simp;omega)
 have e1:(ss++[t]).length=i+1:=by simp [i]
 refine ⟨t,some (.str (cV k)),some (.tup (arg k a.v b.v)),s3,zw (zO W) (zw (zO A7) (zw E7 (zw (oF (uO (zg rfl) M1 (NM s1) Vg)) (oF (uO (zg rfl) S2 (yl (Tx rfl (NM s2) (zg rfl) (zg rfl)) (by simp)) Vh))))),⟨?_,?_,?_,?_,?_⟩,?_⟩
 ·show (s2.set S _)[S]?=_
  rw [yW (ym S2),lD];rfl
 ·show (s2.set S _)[M]?=_
  rw [jd ne,M2,e1,F0,lD];rfl
 ·refine U9 G.w ?_ ?_ hk ?_
  ·rw [List.nil_append,G.nm];exact wa
  ·rw [List.nil_append,G.nm];exact wb
  ·rw [List.nil_append,G.nm];exact Vc z i
 ·rw [e1,F0,lD,G.nm];rfl
 ·exact G.k.trans (o1.kx.trans ((jA (by simp)).trans (jA (by simp))))
 ·simp [s3,s2,s1];omega
def F_ {g:PV->zc->Option zc}{body:Aj}{n:Nat}(xs:An) (I:Nat->zc->ae->Prop) (at_:∀i e st,I i e st->st[n]?=some (.lst xs)) (step:∀(i:Nat) x e st,xs[i]?=some x->I i e st->∃e1 e2 aK,g (.tup [.int (i:Int),x]) e=some e1/\body e1 st=.ok (.nx e2) aK/\I (i+1) e2 aK) :
  ∀(k i m:Nat) (env:zc) (st:ae),i+k=xs.length->k<m->I i env st->∃b_ bh,c6 g body n m i env st=.ok (.nx b_) bh/\I xs.length b_ bh
 | 0,i,m,env,st,hk,hm,h=>by
  obtain ⟨m,rfl⟩:∃j,m=j+1:=⟨m-1,by omega⟩
  refine ⟨env,st,?_,by rw [<-hk];exact h⟩
  unfold c6
  rw [yA (at_ _ _ _ h),rV (by omega)]
 | k+1,i,m,env,st,hk,hm,h=>by
  obtain ⟨m,rfl⟩:∃j,m=j+1:=⟨m-1,by omega⟩
  have hx:xs[i]?=some (xs[i]'(by omega)):=yu (by omega)
  obtain ⟨e1,e2,aK,q1,q2,q3⟩:=step i _ env st hx h
  obtain ⟨b_,bh,r,h2⟩:=F_ xs I at_ step k (i+1) m e2 aK (by omega) (by omega) q3
  refine ⟨b_,bh,?_,h2⟩
  unfold c6
  rw [yA (at_ _ _ _ h),hx]
  simp only
  rw [q1]
  simp only
  rw [q2]
  simp only [zJ]
  exact r
def Vi {fs:Ah}{g:PV->zc->Option zc}{body:Aj}{e:zc}{s0 s:ae}{r:Nat}{xs:An}{X:Res Fl}(hf:fs e s0=.ok [.ref r] s) (h:s[r]?=some (.lst xs)) (hX:c6 g body r (lim+1) 0 e s=X):ma fs g body e s0=X:=by
 rw [Cs,hf,zJ]
 show (yp s r _).bind _=_
 rw [yA h,zJ]
 exact hX
def Vj (ns:List Int):∃cs:List Int,cs.length<=59/\cI (ns.map PV.int) none (some 59)=cs.map PV.int:=by
 refine ⟨(ns.drop (HT.sIx ns.length 0 none)).take (HT.sIx ns.length ns.length (some 59)-HT.sIx ns.length 0 none),?_,?_⟩
 ·have:HT.sIx ns.length ns.length (some 59)-HT.sIx ns.length 0 none<=59:=by
   simp [HT.sIx]
   omega
  rw [List.length_take]
  omega
 ·simp [cI,List.map_take,List.map_drop]
def Vk (ns:List Int) {z:Str}(hz:z.length<=9) (s:ae):∃ss s1,uU [iT ns,.str z] s=.ok (.ref s.length) s1/\s1[s.length]?=some (.lst (ss.map St.v))/\WS [] ss/\ss.map (·.z)=fj z ss.length/\ss.length<=59/\Old s s1:=by
 obtain ⟨cs,hc,ec⟩:=Vj ns
 let s1:=s++[SO.lst []]
 let s2:=s1++[SO.lst []]
 let s3:=s2++[SO.lst (cs.map PV.int)]
 have l1:s1.length=s.length+1:=by simp [s1]
 have l2:s2.length=s.length+2:=by simp [s2,s1]
 have l3:s3.length=s.length+3:=by simp [s3,s2,s1]
 have h3:s3[s2.length]?=some (.lst (cs.map PV.int)):=yj _ _
 have SL:(kC (zd 0) eV (d5 (Ar 59))) (eT ns z s.length s1.length none none none none) s2=.ok (.ref s2.length) s3:=Dj (zg rfl) Dl (Dk rfl) (by rw [Ms,ec])
 have D0:Dr z s.length s1.length [] s3 s3:=⟨zQ _ _ _ _ (zQ _ _ _ _ (yj _ _)),zQ _ _ _ _ (yj _ _),.nil _,rfl,Kx.refl _ _⟩
 obtain ⟨e',s4,F,z4,z5,z6,z7,he,ss,Vl,D,_⟩:=F_ (g:=g2 4 5) (body:=bT) (n:=s2.length) (cs.map PV.int) (λi e st=>∃z4 z5 z6 z7,e=eT ns z s.length s1.length z4 z5 z6 z7/\∃ss,ss.length=i/\Dr z s.length s1.length ss s3 st/\s3.length<=st.length) (λi e st ⟨z4,z5,z6,z7,he,ss,h1,D,_⟩=>D.k _ _ (by simp;omega) h3) (λi x e st hx ⟨z4,z5,z6,z7,he,ss,hi,D,hl⟩=>by
  subst he
  rw [jr] at hx
  obtain ⟨c,sT,rfl⟩:=Option.map_eq_some_iff.mp hx
  have il:=vI sT
  obtain ⟨t,v7,v8,bh,E,D',mP⟩:=Vf (ns:=ns) (z6:=z6) (z7:=z7) hz (by omega) (by omega) D c hl (by omega) (by omega)
  rw [hi] at E
  exact ⟨_,_,bh,rfl,E,_,_,v7,v8,rfl,ss++[t],by simp [hi],D',mP⟩) cs.length 0 (lim+1) (eT ns z s.length s1.length none none none none) s3 (by simp) (by simp [lim];omega) ⟨none,none,none,none,rfl,[],rfl,D0,ya _⟩
 subst he
 rw [jV] at Vl
 exact ⟨ss,s4,zV rfl (zw (zO (wf we (by simp))) (zw (zO (wf we (by simp))) (zw (Vi (zI SL) h3 F) (zU (zg rfl))))),D.at_S,D.w,D.nm,by omega,λm so q=>D.k _ _ (by have:=ym q;simp;omega) (zQ _ _ _ _ (zQ _ _ _ _ (zQ _ _ _ _ q)))⟩
def rF (a:At) (n:Nat):dQ (n+1) a.v:=by
 cases a with
 | is i=>exact .tup _ _ (by simp) (bw (.str _ _) (bw (.int _ _) j0))
 | of w=>exact .tup _ _ (by simp) (bw (.str _ _) (bw (.str _ _) j0))
def Vm (t:St):dQ 3 t.v:=by
 refine .tup _ _ (by simp) (bw (.str _ _) (bw (.str _ _) (bw (.str _ _) (bw (.tup _ _ ?_ ?_) j0))))
 ·unfold arg;split<;>simp
 ·unfold arg
  split
  ·exact bw (rF _ 0) j0
  ·exact bw (rF _ 0) (bw (rF _ 0) j0)
def Vn (ps:Ad) (n:Nat) (h:ps.length<=1000):dQ (n+1) (.tup (ps.map PV.str)):=.tup _ _ (by simpa using h) λx hx=>by
 obtain ⟨z,_,rfl⟩:=wE.mp hx
 exact .str _ _
def Ga {ps:Ad}{ss:An}{e:PV}(z:Str) (hp:ps.length<=1000) (hs:ss.length<=1000) (h:∀x∈ss,dQ 3 x) (he:dQ 4 e):dQ 7 (.tup [cu z ps ss e]) :=
 .tup _ _ (by simp) (bw (.tup _ _ (by simp) (bw (.str _ _) (bw (Vn ps 4 hp) (bw (.tup _ _ (by simp) (bw (.tup _ _ hs h) (bw he j0))) j0)))) j0)
def Vo {z:Str}{ps:Ad}{ss:List St}{a:At}(hp:ps.length<=1000) (hs:ss.length<=1000):dQ 7 (kZ z ps ss a):=Ga z hp (by simpa using hs) (λx hx=>by obtain ⟨t,_,rfl⟩:=wE.mp hx;exact Vm t) (.tup _ _ (by simp) (bw (.str _ _) (bw (rF a 2) j0)))
def Vp {r:Sum Dv Str}{a:At}{e:PV}{ps:Ad}(z:Str) (hp:ps.length<=1000) (he:En r a e):dQ 7 (.tup [yK z ps e]):=Ga z hp (by simp) j0 (by
 cases he with
 | ok D a x hv=>exact .tup _ _ (by simp) (bw (.str _ _) (bw (.tup _ _ (by simp) (bw (.str _ _) (bw (.int _ _) j0))) j0))
 | no w a=>exact .tup _ _ (by simp) (bw (.str _ _) (bw (.str _ _) j0)))
def pN (z:Str) (i:Nat):Str:=z ++ "p" ++ d8 i
def Vq (z:Str) (n:Nat):((List.range n).map (pN z)).Nodup:=List.Pairwise.map _ (λa b h e=>h (FF (FZ e))) List.nodup_range
abbrev e0 (ns:List Int) (c:Int) (z1 z2 z3 z4 z5 z6:Ao):zc:=[some (iT ns),some (.int c),z1,z2,z3,z4,z5,z6]
def Vr (ns:List Int) (c:Int) (s:ae):∃z:Str,z.length<=3/\∀{X:Res Fl},vD (e0 ns c (some (.str z)) none none none none none) s=X->EN (e0 ns c none none none none none none) s=X:=by
 obtain ⟨j,hj,MJ⟩:=g7 (x:=c) (j:=26) (by decide) s
 obtain ⟨n,hn,MN⟩:=g7 (x:=yY c 26) (j:=3) (by decide) s
 have LA:=(Tq j hj s).1
 have rl:(cb "x" (n:Int)).length<=2:=by
  match n,hn with
  | 0,_=>decide +kernel
  | 1,_=>decide +kernel
  | 2,_=>decide +kernel
  | n+3,h=>omega
 have xl:("x" : Str).length<=1000:=by decide +kernel
 have RX:jq (.str "x") (nV n) s=.ok (.str (cb "x" (n:Int))) s:=by rw [Np,zA ⟨by omega,by omega,xl⟩]
 have l1:(⟨#[iP j]⟩:Str).length=1:=rfl
 have l2:((⟨#[iP j]⟩:Str)++cb "x" (n:Int)).length=(⟨#[iP j]⟩:Str).length+(cb "x" (n:Int)).length:=strLen_append _ _
 exact ⟨(⟨#[iP j]⟩:Str)++cb "x" (n:Int),by omega,λh=>zw (zO (zm (zm rfl (zm (zg rfl) rfl MJ) LA) (zm rfl (zm (zm (zg rfl) rfl (oG _ _ (by decide) (by decide))) rfl MN) RX) (ad _ _ (by omega) _))) h⟩
def Vs (ns:List Int) (c:Int) {z:Str}(hz:z.length<=3) (s:ae):∃n s1,n<=2/\∀{X:Res Fl},EM (e0 ns c (some (.str z)) (some (.tup (((List.range n).map (pN z)).map PV.str))) none none none none) s1=X->vD (e0 ns c (some (.str z)) none none none none none) s=X:=by
 obtain ⟨n,hn,MN⟩:=g7 (x:=yY c 78) (j:=3) (by decide) s
 have pl:("p" : Str).length=1:=by decide +kernel
 obtain ⟨ys,s1,C,hy⟩:=Tt (fe:=(zh yx (zh yx (zd 3) (As "p")) (zt wc (ze (zd 0) zk)))) (fs:=(ze (zh yH (zh jF (zd 1) (Ar 78)) (Ar 3)) zk)) (env:=e0 ns c (some (.str z)) none none none none none) (st:=s) n (by omega) (zI (zm (zm (zg rfl) rfl (oG _ _ (by decide) (by decide))) rfl MN)) (λi ys _=>ys=((List.range i).map (pN z)).map PV.str) (λi ys st hi h=>by
  have l2:(z ++ "p" : Str).length=z.length+("p" : Str).length:=strLen_append _ _
  have l3:=vV (n:=i) (by omega)
  refine ⟨.str (pN z i),st,zm (zm (zg rfl) rfl (ad _ _ (by omega) _)) (zD (zI (zg rfl)) (vW (by omega) st)) (ad _ _ (by omega) _),?_⟩
  rw [h,List.range_succ,lD,lD];rfl) rfl
 subst hy
 exact ⟨n,_,by omega,λh=>zw (zO (zD (zI C) gX)) h⟩
def Vt {n:Nat} (h:n<=2):cI [PV.str "v0", .str "v1"] none (some (n:Int))=(vs n).map PV.str:=by
 have e0:vN 0 = "v0" := v0
 have e1:vN 1 = "v1" := v1
 match n,h with
 | 0,_=>rfl
 | 1,_=>rw [show (vs 1).map PV.str=[PV.str (vN 0)] from rfl,e0];rfl
 | 2,_=>rw [show (vs 2).map PV.str=[PV.str (vN 0),.str (vN 1)] from rfl,e0,e1];rfl
def Vu (ns:List Int) (c:Int) {z:Str}{ps:PV}{ss:List St}{S:Nat}{s:ae}(hz:z.length<=3) (hS:s[S]?=some (.lst (ss.map St.v))) (hn:ss.map (·.z)=fj z ss.length) (hl:ss.length<=59):∃a:At,WA (ss.map (·.z)) a/\∀{X:Res Fl},EJ (e0 ns c (some (.str z)) (some ps) (Au S) (some a.v) none none) s=X->EK (e0 ns c (some (.str z)) (some ps) (Au S) none none none) s=X:=by
 obtain ⟨b,hb,MB⟩:=g7 (x:=c) (j:=100000000000000000) (by decide) s
 have pw:wW (.int 10) (.int 17) s=.ok (.int 100000000000000000) s:=by
  have cp:gj 10 17=true:=by decide
  have pw:((10:Int) ^ (17:Int).toNat)=100000000000000000:=by decide
  show (if gj 10 17=true then Res.ok (PV.int (10 ^ (17:Int).toNat)) s else .stuck)=_
  rw [zA cp,pw]
 have E4:(zW (ze (As "is") (ze (zh yH (zd 1) (zh wW (Ar 10) (Ar 17))) zk))) (e0 ns c (some (.str z)) (some ps) (Au S) none none none) s=.ok (At.is (b:Int)).v s:=yl (zP rfl (zm (zg rfl) (zm rfl rfl pw) MB)) (by simp)
 have LN:yq [.ref S] s=.ok (nV ss.length) s:=(bt hS).trans (by rw [jV])
 have T:∀t,decide ((0:Int)<(ss.length:Int))=t->(mB (zh jo (zt yq (ze (zd 4) zk)) (Ar 0))) (e0 ns c (some (.str z)) (some ps) (Au S) (some (At.is (b:Int)).v) none none) s=.ok t s:=λt h=>zY (zm (zD (zI (zg rfl)) LN) rfl (iO t h _))
 by_cases h0:0<ss.length
 ·obtain ⟨c1,C1⟩:=FX ns 1 s
  have C1:my [iT ns,.int 1] s=.ok (.int c1) s:=C1
  obtain ⟨j,hj,MJ⟩:=g7 (x:=c1) (j:=ss.length) h0 s
  refine ⟨.of (eZ z j),?_,λh=>zw (zO E4) (zw (yM (T true (wm (by omega))) (zO (v:=(At.of (eZ z j)).v) (yl (zP rfl (zm (zg rfl) (zD (zI (zm (zD (zP (zg rfl) rfl) C1) (zD (zI (zg rfl)) LN) MJ)) (vW (by omega) s)) (F9 (by omega) (by omega) s))) (by simp)))) h)⟩
  rw [hn]
  exact wE.mpr ⟨j,mL.mpr hj,rfl⟩
 ·refine ⟨.is (b:Int),?_,λh=>zw (zO E4) (zw (yi (T false (jn (by omega)))) h)⟩
  show (b:Int).natAbs<10 ^ 18
  omega
def zxe (ns:List Int):∃st,EO [.frl (ns.map .int)] []=.ok (.bl true) st:=by
 obtain ⟨c,C⟩:=FX ns 0 []
 have C:my [iT ns,.int 0] []=.ok (.int c) []:=C
 obtain ⟨z,hz,H1⟩:=Vr ns c []
 obtain ⟨n,t1,hn,H2⟩:=Vs ns c hz []
 obtain ⟨ss,t2,E2,S2,ws,nm,hl,o2⟩:=Vk ns (z:=z) (by omega) t1
 obtain ⟨a,wa,H3⟩:=Vu ns c (ps:=.tup (((List.range n).map (pN z)).map PV.str)) hz S2 nm hl
 obtain ⟨r,e,hF,hE⟩:=Va ws wa
 let ps:=(List.range n).map (pN z)
 have pl:ps.length=n:=by simp [ps]
 have nd:ps.Nodup:=Vq z n
 obtain ⟨t3,E3,o3⟩:=U8 hF hE (by omega) S2
 obtain ⟨t4,E4,o4⟩:=FL (z:=z) (ps:=ps) hF hE (by omega) nd (by omega) t3
 rw [pl] at E4
 have sd:dQ 7 (.tup [yK "q0" (vs n) e]):=Vp "q0" (by simp [vs];omega) hE
 obtain ⟨t5,E5,o5⟩:=vX sd t4
 obtain ⟨t6,E6,o6⟩:=FL (z:=z) (ps:=ps) hF hE (by omega) nd (by omega) t5
 rw [pl] at E6
 obtain ⟨t7,E7,o7⟩:=vX sd t6
 have TU:∀{s:ae},s[t1.length]?=some (.lst (ss.map St.v))->jp [.ref t1.length] s=.ok (.tup (ss.map St.v)) s:=λh=>by rw [qu,yA h]
 have S7:=o7 _ _ (o6 _ _ (o5 _ _ (o4 _ _ (o3 _ _ S2))))
 have PR:∀{z6 z7:Ao} {s:ae},s[t1.length]?=some (.lst (ss.map St.v))->(zW (ze (zW (ze (zd 2) (ze (zd 3) (ze (zW (ze (zt jp (ze (zd 4) zk)) (ze (zW (ze (As "give") (ze (zd 5) zk))) zk))) zk)))) zk)) (e0 ns c (some (.str z)) (some (.tup (ps.map PV.str))) (Au t1.length) (some a.v) z6 z7) s=.ok (kZ z ps ss a) s:=λh=>yl (zI (yl (wx (zg rfl) (zg rfl) (yl (zP (zD (zI (zg rfl)) (TU h)) (yl (zP rfl (zg rfl)) (by simp))) (by simp))) (by simp))) (by simp)
 have SL:(kC (zW (ze (As "v0") (ze (As "v1") zk))) eV (d5 (zt yq (ze (zd 3) zk)))) (e0 ns c (some (.str z)) (some (.tup (ps.map PV.str))) (Au t1.length) (some a.v) (some (kZ z ps ss a)) none) t2=.ok (.tup ((vs n).map PV.str)) t2:=Dj (yl (zP rfl rfl) (by simp)) Dl (Dk (i:=(n:Int)) (zD (zI (zg rfl)) ((kN _).trans (by rw [jV,pl])))) (by rw [Mr,Vt hn])
 refine ⟨t7,zV rfl (zw (zO (zD (zP (zg rfl) rfl) C)) (H1 (H2 (zw (zO (zD (zP (zg rfl) (zg rfl)) E2)) (H3 (zw (zO (PR S2)) (zw (zO (yl (zI (yl (wx rfl SL (yl (zP (yl we (by simp)) (zD (zP (zg rfl) (zg rfl)) E3)) (by simp))) (by simp))) (by simp))) (zw (yi (Di (zY (zD (zP (zD (zI (zg rfl)) E4) (zg rfl)) E5)))) (zU (qF (zD (zP (zD (zI (zg rfl)) E6) (zg rfl)) E7) (zm (zg rfl) (PR S7) (UT (Vo (by omega) (by omega)) (by decide) _))))))))))))⟩
end FK70
open PySem PySem.W PyProof.Rows
set_option maxHeartbeats 0
namespace PySem.W.Fast
def tw15847018325610908574:=()
def tw6445200203664067719:=()
local macro_rules
|`(command|#print $s:str)=>do
 let c<-(s.getString.splitOn " ").toArray.flatMapM λw=>do
  let [p,a,b]:=w.splitOn "_"|Lean.Macro.throwUnsupported
  (Array.range (b.toNat!+1-a.toNat!)).mapM λk=>do
   let n:=Lean.mkIdent (.mkSimple s!"tw{((`hdT).str s!"{p}_{a.toNat!+k}").hash}")
   `(command|def $n := ())
 return Lean.mkNullNode c
#print "o_0_900 sts_0_900 view_0_900 tree_0_900 heap_0_900 env_0_900"
end PySem.W.Fast
open_top hdT for PySem.Challenge.rw_foreknown_k70_numbers_done
theorem PySem.Challenge.cw_foreknown_k70_numbers_done_holds : PySem.Challenge.rw_foreknown_k70_numbers_done.Holds :=
 hdT (by
 k_fill
 refine Mi.walkM (l:=PySem.Challenge.rw_foreknown_k70_numbers_done) (k:=11) (x := "_law_script") rfl rfl ⟨rfl,by decide,by decide⟩ (λw h Y=>PySem.W.kIn_of Y) ?F
 case F =>
  intro w mg fa h KX G hmg
  have m_Op_answer:Mi.MtF (L2.KOf KX) mg "Op" "answer" "Op.answer" FK70.zeS ["self", "values"]:=by
   dsimp only [L2.KOf]
   refine' Mi.zbo KX G ?aC ?pg ?hd ?po ?sa ?a ?i ?l ?c ?k ?b
   case aC|pg|hd|po|sa|a|i|l|c|k=>k_is
   (case b=>exact λ_ _ _ _ _ _ us hl=>match us,hl with|[_,_],_=>rfl)
  have n_Op:Mi.NwF (L2.KOf KX) mg "Op" "Op.__init__" FK70.zeT ["self", "word"]:=by
   dsimp only [L2.KOf]
   refine' Mi.zez KX G ?aC ?mk ?kc ?a ?i ?l ?c ?k ?b
   case aC|mk|kc|a|i|l|c|k=>k_is
   (case b=>exact λ_ _ _ _ _ _ us hl=>match us,hl with|[_,_],_=>rfl)
  have m_Folding_told_by:Mi.MtF (L2.KOf KX) mg "Folding" "told_by" "Folding.told_by" FK70.zcd ["self", "step", "atoms"]:=by
   dsimp only [L2.KOf]
   refine' Mi.zbo KX G ?aC ?pg ?hd ?po ?sa ?a ?i ?l ?c ?k ?b
   case aC|pg|hd|po|sa|a|i|l|c|k=>k_is
   (case b=>exact λ_ _ _ _ _ _ us hl=>match us,hl with|[_,_,_],_=>rfl)
  have m_Folding_folded_end:Mi.MtF (L2.KOf KX) mg "Folding" "folded_end" "Folding.folded_end" FK70.zeU ["self", "end"]:=by
   dsimp only [L2.KOf]
   refine' Mi.zbo KX G ?aC ?pg ?hd ?po ?sa ?a ?i ?l ?c ?k ?b
   case aC|pg|hd|po|sa|a|i|l|c|k=>k_is
   (case b=>exact λ_ _ _ _ _ _ us hl=>match us,hl with|[_,_],_=>rfl)
  have m_Folding_folded_block:Mi.MtF (L2.KOf KX) mg "Folding" "folded_block" "Folding.folded_block" FK70.zeV ["self", "block"]:=by
   dsimp only [L2.KOf]
   refine' Mi.zbo KX G ?aC ?pg ?hd ?po ?sa ?a ?i ?l ?c ?k ?b
   case aC|pg|hd|po|sa|a|i|l|c|k=>k_is
   (case b=>exact λ_ _ _ _ _ _ us hl=>match us,hl with|[_,_],_=>rfl)
  have n_Folding:Mi.NwF (L2.KOf KX) mg "Folding" "Folding.__init__" FK70.zeW ["self", "answers"]:=by
   dsimp only [L2.KOf]
   refine' Mi.zez KX G ?aC ?mk ?kc ?a ?i ?l ?c ?k ?b
   case aC|mk|kc|a|i|l|c|k=>k_is
   (case b=>exact λ_ _ _ _ _ _ us hl=>match us,hl with|[_,_],_=>rfl)
  have n_Host:Mi.NwF (L2.KOf KX) mg "Host" "Host.__init__" FK70.zeY ["self", "function", "lone"]:=by
   dsimp only [L2.KOf]
   refine' Mi.zez KX G ?aC ?mk ?kc ?a ?i ?l ?c ?k ?b
   case aC|mk|kc|a|i|l|c|k=>k_is
   (case b=>exact λ_ _ _ _ _ _ us hl=>match us,hl with|[_,_,_],_=>rfl)
  have m_Host_may_join:Mi.MtF (L2.KOf KX) mg "Host" "may_join" "Host.may_join" FK70.zeZ ["self", "end", "outer"]:=by
   dsimp only [L2.KOf]
   refine' Mi.zbo KX G ?aC ?pg ?hd ?po ?sa ?a ?i ?l ?c ?k ?b
   case aC|pg|hd|po|sa|a|i|l|c|k=>k_is
   (case b=>exact λ_ _ _ _ _ _ us hl=>match us,hl with|[_,_,_],_=>rfl)
  have m_Host_joined_block:Mi.MtF (L2.KOf KX) mg "Host" "joined_block" "Host.joined_block" FK70.ze0 ["self", "block", "outer"]:=by
   dsimp only [L2.KOf]
   refine' Mi.zbo KX G ?aC ?pg ?hd ?po ?sa ?a ?i ?l ?c ?k ?b
   case aC|pg|hd|po|sa|a|i|l|c|k=>k_is
   (case b=>exact λ_ _ _ _ _ _ us hl=>match us,hl with|[_,_,_],_=>rfl)
  have x_Fault:Mi.XnF (L2.KOf KX) mg "Fault" "word" "Fault.__init__" FK70.ze5:=by
   dsimp only [L2.KOf]
   refine' Mi.zpQ KX G ?aC ?hC ?hB ?hN ?he ?hi ?fn ?kp ?sa ?hcl ?hl ?no ?hd ?l ?c ?k ?b
   case aC|hC=>k_is
   (case hB=>k_exc)
   (case hN=>k_is)
   (case he=>first|rfl|with_unfolding_all rfl|simp)
   (case hi=>k_is)
   (case fn=>k_is)
   (case kp=>k_is)
   (case sa=>k_is)
   (case hcl=>k_is)
   (case hl=>rfl)
   (case no=>k_is)
   (case hd=>k_is)
   (case l=>k_is)
   (case c=>k_is)
   (case k=>k_is)
   (case b=>exact λ_ _ _ _ _ _ us hl=>match us,hl with|[_,_],_=>rfl)
  have c_MOST_PARTS:∃t,mg "MOST_PARTS" = some (.int 60 t):=by
   refine' Mi.zhO KX G ?a
   (case a=>k_is)
  have c_NUMBER_BOUND:∃t,mg "NUMBER_BOUND" = some (.int 1000000000000000000 t):=by
   refine' Mi.zhO KX G ?a
   (case a=>k_is)
  have d_answers:Mi.FldF (L2.KOf KX) mg "answers" FK70.insOf FK70.excOf:=by
   refine ⟨λc hc=>?_,λc hc=>?_⟩
   ·simp [FK70.insOf,or_assoc] at hc
    rcases hc with rfl|rfl|rfl
    ·dsimp only [L2.KOf]
     refine' Mi.yN KX G ?aC ?pg ?hd ?po ?sa ?na
     case aC|pg|hd|po|sa|na=>k_is
    ·dsimp only [L2.KOf]
     refine' Mi.yN KX G ?aC ?pg ?hd ?po ?sa ?na
     case aC|pg|hd|po|sa|na=>k_is
    ·dsimp only [L2.KOf]
     refine' Mi.yN KX G ?aC ?pg ?hd ?po ?sa ?na
     case aC|pg|hd|po|sa|na=>k_is
   ·simp [FK70.excOf,or_assoc] at hc
    rcases hc with rfl
    ·dsimp only [L2.KOf]
     refine' Mi.wM KX G ?aC ?ga ?hk ?hB ?hd ?no
     case aC|ga|hk|hB|hd|no=>k_is
  have d_depth:Mi.FldF (L2.KOf KX) mg "depth" FK70.insOf FK70.excOf:=by
   refine ⟨λc hc=>?_,λc hc=>?_⟩
   ·simp [FK70.insOf,or_assoc] at hc
    rcases hc with rfl|rfl|rfl
    ·dsimp only [L2.KOf]
     refine' Mi.yN KX G ?aC ?pg ?hd ?po ?sa ?na
     case aC|pg|hd|po|sa|na=>k_is
    ·dsimp only [L2.KOf]
     refine' Mi.yN KX G ?aC ?pg ?hd ?po ?sa ?na
     case aC|pg|hd|po|sa|na=>k_is
    ·dsimp only [L2.KOf]
     refine' Mi.yN KX G ?aC ?pg ?hd ?po ?sa ?na
     case aC|pg|hd|po|sa|na=>k_is
   ·simp [FK70.excOf,or_assoc] at hc
    rcases hc with rfl
    ·dsimp only [L2.KOf]
     refine' Mi.wM KX G ?aC ?ga ?hk ?hB ?hd ?no
     case aC|ga|hk|hB|hd|no=>k_is
  have d_joined_names:Mi.FldF (L2.KOf KX) mg "joined_names" FK70.insOf FK70.excOf:=by
   refine ⟨λc hc=>?_,λc hc=>?_⟩
   ·simp [FK70.insOf,or_assoc] at hc
    rcases hc with rfl|rfl|rfl
    ·dsimp only [L2.KOf]
     refine' Mi.yN KX G ?aC ?pg ?hd ?po ?sa ?na
     case aC|pg|hd|po|sa|na=>k_is
    ·dsimp only [L2.KOf]
     refine' Mi.yN KX G ?aC ?pg ?hd ?po ?sa ?na
     case aC|pg|hd|po|sa|na=>k_is
    ·dsimp only [L2.KOf]
     refine' Mi.yN KX G ?aC ?pg ?hd ?po ?sa ?na
     case aC|pg|hd|po|sa|na=>k_is
   ·simp [FK70.excOf,or_assoc] at hc
    rcases hc with rfl
    ·dsimp only [L2.KOf]
     refine' Mi.wM KX G ?aC ?ga ?hk ?hB ?hd ?no
     case aC|ga|hk|hB|hd|no=>k_is
  have d_lone:Mi.FldF (L2.KOf KX) mg "lone" FK70.insOf FK70.excOf:=by
   refine ⟨λc hc=>?_,λc hc=>?_⟩
   ·simp [FK70.insOf,or_assoc] at hc
    rcases hc with rfl|rfl|rfl
    ·dsimp only [L2.KOf]
     refine' Mi.yN KX G ?aC ?pg ?hd ?po ?sa ?na
     case aC|pg|hd|po|sa|na=>k_is
    ·dsimp only [L2.KOf]
     refine' Mi.yN KX G ?aC ?pg ?hd ?po ?sa ?na
     case aC|pg|hd|po|sa|na=>k_is
    ·dsimp only [L2.KOf]
     refine' Mi.yN KX G ?aC ?pg ?hd ?po ?sa ?na
     case aC|pg|hd|po|sa|na=>k_is
   ·simp [FK70.excOf,or_assoc] at hc
    rcases hc with rfl
    ·dsimp only [L2.KOf]
     refine' Mi.wM KX G ?aC ?ga ?hk ?hB ?hd ?no
     case aC|ga|hk|hB|hd|no=>k_is
  have d_many:Mi.FldF (L2.KOf KX) mg "many" FK70.insOf FK70.excOf:=by
   refine ⟨λc hc=>?_,λc hc=>?_⟩
   ·simp [FK70.insOf,or_assoc] at hc
    rcases hc with rfl|rfl|rfl
    ·dsimp only [L2.KOf]
     refine' Mi.yN KX G ?aC ?pg ?hd ?po ?sa ?na
     case aC|pg|hd|po|sa|na=>k_is
    ·dsimp only [L2.KOf]
     refine' Mi.yN KX G ?aC ?pg ?hd ?po ?sa ?na
     case aC|pg|hd|po|sa|na=>k_is
    ·dsimp only [L2.KOf]
     refine' Mi.yN KX G ?aC ?pg ?hd ?po ?sa ?na
     case aC|pg|hd|po|sa|na=>k_is
   ·simp [FK70.excOf,or_assoc] at hc
    rcases hc with rfl
    ·dsimp only [L2.KOf]
     refine' Mi.wM KX G ?aC ?ga ?hk ?hB ?hd ?no
     case aC|ga|hk|hB|hd|no=>k_is
  have d_name:Mi.FldF (L2.KOf KX) mg "name" FK70.insOf FK70.excOf:=by
   refine ⟨λc hc=>?_,λc hc=>?_⟩
   ·simp [FK70.insOf,or_assoc] at hc
    rcases hc with rfl|rfl|rfl
    ·dsimp only [L2.KOf]
     refine' Mi.yN KX G ?aC ?pg ?hd ?po ?sa ?na
     case aC|pg|hd|po|sa|na=>k_is
    ·dsimp only [L2.KOf]
     refine' Mi.yN KX G ?aC ?pg ?hd ?po ?sa ?na
     case aC|pg|hd|po|sa|na=>k_is
    ·dsimp only [L2.KOf]
     refine' Mi.yN KX G ?aC ?pg ?hd ?po ?sa ?na
     case aC|pg|hd|po|sa|na=>k_is
   ·simp [FK70.excOf,or_assoc] at hc
    rcases hc with rfl
    ·dsimp only [L2.KOf]
     refine' Mi.wM KX G ?aC ?ga ?hk ?hB ?hd ?no
     case aC|ga|hk|hB|hd|no=>k_is
  have d_size:Mi.FldF (L2.KOf KX) mg "size" FK70.insOf FK70.excOf:=by
   refine ⟨λc hc=>?_,λc hc=>?_⟩
   ·simp [FK70.insOf,or_assoc] at hc
    rcases hc with rfl|rfl|rfl
    ·dsimp only [L2.KOf]
     refine' Mi.yN KX G ?aC ?pg ?hd ?po ?sa ?na
     case aC|pg|hd|po|sa|na=>k_is
    ·dsimp only [L2.KOf]
     refine' Mi.yN KX G ?aC ?pg ?hd ?po ?sa ?na
     case aC|pg|hd|po|sa|na=>k_is
    ·dsimp only [L2.KOf]
     refine' Mi.yN KX G ?aC ?pg ?hd ?po ?sa ?na
     case aC|pg|hd|po|sa|na=>k_is
   ·simp [FK70.excOf,or_assoc] at hc
    rcases hc with rfl
    ·dsimp only [L2.KOf]
     refine' Mi.wM KX G ?aC ?ga ?hk ?hB ?hd ?no
     case aC|ga|hk|hB|hd|no=>k_is
  have d_steads:Mi.FldF (L2.KOf KX) mg "steads" FK70.insOf FK70.excOf:=by
   refine ⟨λc hc=>?_,λc hc=>?_⟩
   ·simp [FK70.insOf,or_assoc] at hc
    rcases hc with rfl|rfl|rfl
    ·dsimp only [L2.KOf]
     refine' Mi.yN KX G ?aC ?pg ?hd ?po ?sa ?na
     case aC|pg|hd|po|sa|na=>k_is
    ·dsimp only [L2.KOf]
     refine' Mi.yN KX G ?aC ?pg ?hd ?po ?sa ?na
     case aC|pg|hd|po|sa|na=>k_is
    ·dsimp only [L2.KOf]
     refine' Mi.yN KX G ?aC ?pg ?hd ?po ?sa ?na
     case aC|pg|hd|po|sa|na=>k_is
   ·simp [FK70.excOf,or_assoc] at hc
    rcases hc with rfl
    ·dsimp only [L2.KOf]
     refine' Mi.wM KX G ?aC ?ga ?hk ?hB ?hd ?no
     case aC|ga|hk|hB|hd|no=>k_is
  have d_taken:Mi.FldF (L2.KOf KX) mg "taken" FK70.insOf FK70.excOf:=by
   refine ⟨λc hc=>?_,λc hc=>?_⟩
   ·simp [FK70.insOf,or_assoc] at hc
    rcases hc with rfl|rfl|rfl
    ·dsimp only [L2.KOf]
     refine' Mi.yN KX G ?aC ?pg ?hd ?po ?sa ?na
     case aC|pg|hd|po|sa|na=>k_is
    ·dsimp only [L2.KOf]
     refine' Mi.yN KX G ?aC ?pg ?hd ?po ?sa ?na
     case aC|pg|hd|po|sa|na=>k_is
    ·dsimp only [L2.KOf]
     refine' Mi.yN KX G ?aC ?pg ?hd ?po ?sa ?na
     case aC|pg|hd|po|sa|na=>k_is
   ·simp [FK70.excOf,or_assoc] at hc
    rcases hc with rfl
    ·dsimp only [L2.KOf]
     refine' Mi.wM KX G ?aC ?ga ?hk ?hB ?hd ?no
     case aC|ga|hk|hB|hd|no=>k_is
  have d_word:Mi.FldF (L2.KOf KX) mg "word" FK70.insOf FK70.excOf:=by
   refine ⟨λc hc=>?_,λc hc=>?_⟩
   ·simp [FK70.insOf,or_assoc] at hc
    rcases hc with rfl|rfl|rfl
    ·dsimp only [L2.KOf]
     refine' Mi.yN KX G ?aC ?pg ?hd ?po ?sa ?na
     case aC|pg|hd|po|sa|na=>k_is
    ·dsimp only [L2.KOf]
     refine' Mi.yN KX G ?aC ?pg ?hd ?po ?sa ?na
     case aC|pg|hd|po|sa|na=>k_is
    ·dsimp only [L2.KOf]
     refine' Mi.yN KX G ?aC ?pg ?hd ?po ?sa ?na
     case aC|pg|hd|po|sa|na=>k_is
   ·simp [FK70.excOf,or_assoc] at hc
    rcases hc with rfl
    ·dsimp only [L2.KOf]
     refine' Mi.wM KX G ?aC ?ga ?hk ?hB ?hd ?no
     case aC|ga|hk|hB|hd|no=>k_is
  have is:Mi.IsF (L2.KOf KX) mg FK70.isT:=by
   exact Mi.zqh rfl rfl rfl
  have kd_OPS:∀X:L2.Cx,X.K=(L2.KOf KX)->X.mg=mg->X.w=w->Mi.KdF X "OPS" FK70.jb FK70.jc FK70.ze6:=by
   dsimp only [L2.KOf]
   refine' Mi.zpT KX G ?aO ?lO ?hk ?no ?hi
   case aO|lO=>k_is
   case hk =>
    repeat (refine ⟨⟨_,_,rfl,rfl⟩,?_⟩)
    exact trivial
   (case no=>first|rfl|decide)
   case hi =>
    simp only [FK70.jb,FK70.jc,List.zip_cons_cons,List.zip_nil_left]
    refine Mi.all_cons ?_ ?_
    ·refine' Mi.zbp KX G ?e ?l1 ?l2 ?a
     case e|l1|l2|a=>k_is
    refine Mi.all_cons ?_ ?_
    ·refine' Mi.zbp KX G ?e ?l1 ?l2 ?a
     case e|l1|l2|a=>k_is
    refine Mi.all_cons ?_ ?_
    ·refine' Mi.zbp KX G ?e ?l1 ?l2 ?a
     case e|l1|l2|a=>k_is
    refine Mi.all_cons ?_ ?_
    ·refine' Mi.zbp KX G ?e ?l1 ?l2 ?a
     case e|l1|l2|a=>k_is
    refine Mi.all_cons ?_ ?_
    ·refine' Mi.zbp KX G ?e ?l1 ?l2 ?a
     case e|l1|l2|a=>k_is
    refine Mi.all_cons ?_ ?_
    ·refine' Mi.zbp KX G ?e ?l1 ?l2 ?a
     case e|l1|l2|a=>k_is
    refine Mi.all_cons ?_ ?_
    ·refine' Mi.zpS KX G ?e ?l1 ?l2 ?a
     case e|l1|l2|a=>k_is
    exact Mi.zpR
  have T:FK70.Txt w (L2.KOf KX) mg:=by
   constructor
   case m_Op_answer=>exact m_Op_answer
   case n_Op=>exact n_Op
   case m_Folding_told_by=>exact m_Folding_told_by
   case m_Folding_folded_end=>exact m_Folding_folded_end
   case m_Folding_folded_block=>exact m_Folding_folded_block
   case n_Folding=>exact n_Folding
   case n_Host=>exact n_Host
   case m_Host_may_join=>exact m_Host_may_join
   case m_Host_joined_block=>exact m_Host_joined_block
   case x_Fault=>exact x_Fault
   case c_MOST_PARTS=>exact c_MOST_PARTS
   case c_NUMBER_BOUND=>exact c_NUMBER_BOUND
   case d_answers=>exact d_answers
   case d_depth=>exact d_depth
   case d_joined_names=>exact d_joined_names
   case d_lone=>exact d_lone
   case d_many=>exact d_many
   case d_name=>exact d_name
   case d_size=>exact d_size
   case d_steads=>exact d_steads
   case d_taken=>exact d_taken
   case d_word=>exact d_word
   case is=>exact is
   case kd_OPS=>exact kd_OPS
   all_goals first
    | (show Mi.FnF _ _ _ _ [_];dsimp only [L2.KOf];refine' Mi.zey KX G ?a ?l ?c ?k ?b;(case a|l|c|k=>k_is);(case b=>exact λ_ _ _ _ _ _ us hl=>match us,hl with|[_],_=>rfl))
    | (show Mi.FnF _ _ _ _ [_,_];dsimp only [L2.KOf];refine' Mi.zey KX G ?a ?l ?c ?k ?b;(case a|l|c|k=>k_is);(case b=>exact λ_ _ _ _ _ _ us hl=>match us,hl with|[_,_],_=>rfl))
    | (show Mi.FnF _ _ _ _ [_,_,_];dsimp only [L2.KOf];refine' Mi.zey KX G ?a ?l ?c ?k ?b;(case a|l|c|k=>k_is);(case b=>exact λ_ _ _ _ _ _ us hl=>match us,hl with|[_,_,_],_=>rfl))
    | (refine' Mi.zpV KX G ?a;case a=>k_is)
  exact Mi.zpU T.f_law hmg (λ_ _ _ _ _ _ _=>rfl) (λf fd F base=>FK70.zvC T F) (λns _=>FK70.zxe ns))
