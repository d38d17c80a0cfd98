import PyProof.Rows.All
import Wide.All
import OpenK.AllK
import Wide.FinOn
import Lean
import PyProof.EqAt
import PyProof.EqKinds
import PyProof.TupleCall
import PySem.Challenge.RW_foreknown_k69_many_keys
set_option Elab.async false
set_option linter.all false
set_option maxRecDepth 100000
abbrev Aa:=PySem.Value->PySem.Shared->Prop
abbrev Ab:=PySem.Str->Option PySem.Value
abbrev Ac:=List (PySem.Addr×PySem.Obj)
abbrev Ad:=List PySem.Str
abbrev Ae:=List PySem.Addr
abbrev Af:=List PySem.Value
def zp:=@PySem.wpAny_bind
def zZ:=@PySem.Heap.get?_push_of_some
def zK:=@PySem.wpAny_pure
def yf:=@PySem.Heap.lt_size
def yP:=@PySem.Heap.get?_push_size
def y9:=@PySem.wpAny_field
def jX:=@PySem.wpAny_call_entry
def wO:=@PySem.wpAny_newObj_type
def jN:=@PySem.wpAny_holding
def yG:=@PySem.wpAny_mono
def j8:=@PySem.Heap.get?_update_other
def wx:=@PySem.wpAny_truthy_bool
def jO:=@PySem.lookup_relabel_local
def yB:=@List.getElem?_eq_getElem
def yR:=@List.getElem?_set_ne
def yt:=@List.getElem?_eq_some_iff
def yM:=@List.getElem?_set_self
def yd:=@Nat.le_refl
def yV:=@List.size_toArray
def jk:=@List.mem_cons_self
def jr:=@List.mem_cons_of_mem
def y0:=@List.mem_append_right
def lV:=@List.mem_append_left
def zu:=@if_pos
def zF:=@if_neg
def jY:=@List.getElem?_map
def yE:=@List.mem_cons
def jP:=@List.drop_eq_getElem_cons
def y6:=@Nat.le_trans
def ig:=@List.length_append
def wy:=@if_true
def jc:=@Nat.zero_le
def m7:=@List.mem_of_getElem?
def jZ:=@List.length_map
def lW:=@List.map_append
def jd:=@Nat.lt_of_lt_of_le
def wP:=@or_false
def yQ:=@List.map_cons
def yz:=@Nat.ne_of_lt
def ke:=@List.range_succ
def j9:=@Bool.and_eq_true
def wm:=@List.mem_map
def m8:=@List.mem_append
def wz:=@List.length_cons
def jQ:=@List.nodup_cons
def ik:=@List.getElem?_append_left
def kf:=@List.getElem?_append_right
def jR:=@decide_eq_false
def il:=@decide_eq_true
def lX:=@List.drop_of_length_le
def wa:=@List.lookup_cons
def sh:=@List.getElem?_eq_none
def lY:=@List.getElem?_eq_none_iff
def m9:=@List.mem_range
def lZ:=@decide_eq_true_eq
def yD:=@Ne.symm
def jS:=@Nat.lt_succ_self
namespace L2
open PySem PySem.Spec PyProof.Rows
abbrev Key:=Sum Int Str
def dP:Key->Value->Bool
 | .inl k,v=>Value.isInt k v
 | .inr x,v=>Value.isStrOf x v
def xF (w:World):Key->Int
 | .inl k=>hashInt k
 | .inr x=>hashStr w x
def wn:∀{k:Key}{v:Value},dP k v=true->(∃i t,k=Sum.inl i/\v=Value.int i t)\/(∃x t,k=Sum.inr x/\v=Value.str x t)
 | .inl i,v,h=>by
  obtain ⟨t,e⟩:=Value.isInt_shape (k:=i) (v:=v) h
  exact .inl ⟨i,t,rfl,e⟩
 | .inr x,v,h=>by
  obtain ⟨t,e⟩:=Value.isStrOf_shape (x:=x) (v:=v) h
  exact .inr ⟨x,t,rfl,e⟩
def FQ (i:Int) (t:Tok):dP (.inl i) (.int i t)=true:=by simp [dP,Value.isInt]
def FR (x:Str) (t:Tok):dP (.inr x) (.str x t)=true:=by simp [dP,Value.isStrOf]
def FT (a b:Int):decide ((Sum.inl a:Key)=Sum.inl b)=(a==b):=by
 by_cases e:a=b
 ·subst e;simp
 ·have h:¬(Sum.inl a:Key)=Sum.inl b:=λq=>e (Sum.inl.inj q)
  rw [jR h]
  exact (beq_eq_false_iff_ne.mpr e).symm
def FU (a b:Str):decide ((Sum.inr a:Key)=Sum.inr b)=decide (a=b):=by
 by_cases e:a=b
 ·subst e;simp
 ·have h:¬(Sum.inr a:Key)=Sum.inr b:=λq=>e (Sum.inr.inj q)
  rw [jR h,jR e]
def FV (a:Int) (b:Str):decide ((Sum.inl a:Key)=Sum.inr b)=false:=jR (λq=>nomatch q)
def FW (a:Str) (b:Int):decide ((Sum.inr a:Key)=Sum.inl b)=false:=jR (λq=>nomatch q)
def aY (prog:Program) (w:World):PySem.KeyKind prog w Key where
 is:=dP
 hash:=xF w
 inj:=λv a b ha hb=>by
  rcases wn ha with ⟨i,t,rfl,rfl⟩|⟨x,t,rfl,rfl⟩
  ·rcases wn hb with ⟨j,u,rfl,e⟩|⟨y,u,rfl,e⟩
   ·injection e with e1 _;rw [e1]
   ·exact nomatch e
  ·rcases wn hb with ⟨j,u,rfl,e⟩|⟨y,u,rfl,e⟩
   ·exact nomatch e
   ·injection e with e1 _;rw [e1]
 byValue:=λk v h=>by
  rcases wn h with ⟨i,t,rfl,rfl⟩|⟨x,t,rfl,rfl⟩<;>rfl
 pyHash:=λhv h=>by
  rcases wn hv with ⟨i,t,rfl,rfl⟩|⟨x,t,rfl,rfl⟩
  ·exact wpAny_pyHash_int h
  ·exact wpAny_pyHash_str h
 eqBool:=λhu hv h=>by
  rcases wn hu with ⟨i,t,rfl,rfl⟩|⟨x,t,rfl,rfl⟩
  ·rcases wn hv with ⟨j,u,rfl,rfl⟩|⟨y,u,rfl,rfl⟩
   ·rw [FT] at h;exact wpAny_eqBool_int h
   ·rw [FV] at h;exact SeqAt.EqAt.int_str i t y u _ _ _ _ h
  ·rcases wn hv with ⟨j,u,rfl,rfl⟩|⟨y,u,rfl,rfl⟩
   ·rw [FW] at h;exact SeqAt.EqAt.str_int x t j u _ _ _ _ h
   ·rw [FU] at h;exact wpAny_eqBool_str h
 «strs» := λk x t v h=>by
  rcases wn h with ⟨i,u,rfl,e⟩|⟨y,u,rfl,e⟩
  ·exact nomatch e
  ·injection e with e1 _
   subst e1
   cases v<;>rfl
def FX (prog:Program) (w:World) (i:Int) (t:Tok):(aY prog w).is (.inl i) (.int i t)=true:=FQ i t
def FY (prog:Program) (w:World) (x:Str) (t:Tok):(aY prog w).is (.inr x) (.str x t)=true:=FR x t
inductive V where
 | non|bl (b:Bool)|int (i:Int)|str (x:Str)|byt (b:Array UInt8)|flt (b:UInt64)|ref (a:Addr)|ty (n:String)
 deriving DecidableEq
def RelV:V->Value->Prop
 | .non,u=>u=Value.none
 | .bl b,u=>u=Value.bool b
 | .int i,u=>∃t,u=Value.int i t
 | .str x,u=>∃t,u=Value.str x t
 | .byt b,u=>∃t,u=Value.bytes b t
 | .flt b,u=>∃t,u=Value.float b t
 | .ref a,u=>u=Value.ref a
 | .ty n,u=>u=Value.type n
abbrev Vals:List V->List Value->Prop:=Paired RelV
def Vals.length {xs:List V}{us:Af}(r:Vals xs us):xs.length=us.length:=Paired.length r
theorem Vals.get:∀{xs:List V}{us:Af}{i:Nat}{x:V},Vals xs us->xs[i]?=some x->∃u,us[i]?=some u/\RelV x u
 | _,_,_,_,.nil,e=>by simp at e
 | _,_,0,_,.cons r _,e=>by simp at e;subst e;exact ⟨_,rfl,r⟩
 | _,_,i+1,x,.cons _ t,e=>by
  obtain ⟨u,h1,h2⟩:=Vals.get (i:=i) (x:=x) t (by simpa using e)
  exact ⟨u,by simpa using h1,h2⟩
theorem Vals.append:∀{xs ys:List V}{us ws:Af},Vals xs us->Vals ys ws->Vals (xs++ys) (us++ws)
 | _,_,_,_,.nil,s=>s
 | _,_,_,_,.cons r t,s=>.cons r (Vals.append t s)
theorem Vals.take:∀{xs:List V}{us:Af}(n:Nat),Vals xs us->Vals (xs.take n) (us.take n)
 | _,_,0,_=>.nil
 | _,_,_+1,.nil=>.nil
 | _,_,n+1,.cons r t=>.cons r (Vals.take n t)
theorem Vals.drop:∀{xs:List V}{us:Af}(n:Nat),Vals xs us->Vals (xs.drop n) (us.drop n)
 | _,_,0,r=>r
 | _,_,_+1,.nil=>.nil
 | _,_,n+1,.cons _ t=>Vals.drop n t
def b_:Option V->Option Value->Prop
 | some v,some u=>RelV v u
 | none,none=>True
 | _,_=>False
def KV {κ:Type}:List (κ×V)->List (κ×Value)->Prop:=Paired λ(p:κ×V) (q:κ×Value)=>p.1=q.1/\RelV p.2 q.2
def kV:Key->V
 | .inl i=>.int i
 | .inr x=>.str x
inductive HO where
 | lst (xs:List V)
 | tup (xs:List V)
 | dK (kvs:List (Key×V))|dT (kvs:List (List Key×V))
 | set (S:Int->Bool) (n:Nat)
 | ins (C dx:Addr) (fs:List (Str×V))
 | own (x:Addr)
 | xd (fs:List (Str×V))
 | met (f x:Addr)
 | rng (lo hi:Int)
 | frz (o:Obj) (u:HO)
 | tbl (ps:Array Value)
 | ext (φ:Program->World->Heap->Prop)
abbrev Hp:=Addr->Option HO
def upd (H:Hp) (a:Addr) (o:HO):Hp:=λb=>if b=a then some o else H b
def yx {H:Hp}{a:Addr}{o:HO}:upd H a o a=some o:=by unfold upd;rw [zu rfl]
def zW {H:Hp}{a b:Addr}{o:HO}(h:b≠a):upd H a o b=H b:=by unfold upd;rw [zF h]
def FZ {H:Hp}{a:Addr}{o u:HO}:upd (upd H a o) a u=upd H a u:=by
 funext b;unfold upd;split<;>rfl
def F0 {H:Hp}{a b:Addr}{o u:HO}(h:H a=some o) (h':H b=some u) (d:o≠u):a≠b:=by
 intro e;subst e;rw [h] at h';exact d (Option.some.inj h')
def wA {H:Hp}{a b:Addr}{o:HO}(h:H a=some o) (h':H b=none):a≠b:=by
 intro e;subst e;rw [h] at h';cases h'
section
variable (P:Program) (w:World)
def aZ (H:Hp) (h:Heap) (a:Addr):HO->Prop
 | .lst xs=>xs.length<=sizeLine/\∃(its:Af) (n:Nat),Vals xs its/\h.get? a=some { cls:=.type "list", data:=.seq its.toArray n }
 | .tup xs=>xs.length<=sizeLine/\∃its:Af,Vals xs its/\IsTup h a its.toArray
 | .dK kvs=>kvs.length<=sizeLine/\(a==sysModules)=false/\∃vs,KV kvs vs/\h.DictOf (aY P w) a vs
 | .dT kvs=>kvs.length<=sizeLine/\(a==sysModules)=false/\∃xs:List (List Key×Addr×Value),
   Paired (λ(p:List Key×V) (q:List Key×Addr×Value)=>p.1=q.1/\H q.2.1=some (.tup (p.1.map kV))/\RelV p.2 q.2.2) kvs xs /\
   ∃o es ep,h.get? a=some o/\o.ExactDict/\o.data=.dict es ep/\es.toList=xs.map (entryOfKey (tupleKind (aY P w)))/\(xs.map (·.1)).Nodup
 | .set S n=>h.SetOf (intKind P w) a S n
 | .ins C dx fs=>H dx=some (.own a)/\fs.length<=1000/\dx≠a/\h.get? a=some (PySem.W.instObj C dx) /\
   ∃mA,h.Ns1 dx mA/\(∀f,b_ (fs.lookup f) (mA f))/\PySem.Within mA (fs.map (·.1))
 | .own _=>∃o,h.get? a=some o
 | .xd fs=>∃mA,h.Ns1 a mA/\∀f,b_ (fs.lookup f) (mA f)
 | .rng lo hi=>∃t u v,h.get? a=some { cls:=.type "range", data:=.fields #[.int lo t,.int hi u,.int 1 v] }
 | .frz o u=>h.get? a=some o/\aZ H h a u
 | .tbl ps=>h.get? a=some { cls:=.none,data:=.fields ps }
 | .met f x=>h.get? a=some (PySem.W.methodObj (.ref f) (.ref x))
 | .ext φ=>φ P w h/\(∃o,h.get? a=some o)/\∀h1 h2:Heap,φ P w h1->(∀o,h1.get? a=some o->h2.get? a=some o)->φ P w h2
def bR (H:Hp) (h:Heap):Prop:=∀a o,H a=some o->aZ P w H h a o
end
section
variable {P:Program}{w:World}{H H':Hp}{h h':Heap}{a:Addr}{o:HO}
def aZ.lt (x:aZ P w H h a o):a<h.objs.size:=by
 cases o with
 | lst xs=>obtain ⟨_,_,_,_,e⟩:=x;exact yf e
 | tup xs=>obtain ⟨_,_,_,p⟩:=x;exact p.lt
 | dK kvs=>obtain ⟨_,_,_,_,o,_,_,e,_⟩:=x;exact yf e
 | dT kvs=>obtain ⟨_,_,_,_,o,_,_,e,_⟩:=x;exact yf e
 | set S n=>obtain ⟨o,_,_,_,e,_⟩:=x;exact yf e
 | ins C dx fs=>obtain ⟨_,_,_,e,_⟩:=x;exact yf e
 | own y=>obtain ⟨_,e⟩:=x;exact yf e
 | xd fs=>obtain ⟨_,⟨_,_,_,e,_⟩,_⟩:=x;exact yf e
 | rng lo hi=>obtain ⟨_,_,_,e⟩:=x;exact yf e
 | frz ob u=>obtain ⟨e,_⟩:=x;exact yf e
 | tbl ps=>exact yf (show h.get? a=some _ from x)
 | met f y=>exact yf (show h.get? a=some _ from x)
 | ext φ=>obtain ⟨_,⟨_,e⟩,_⟩:=x;exact yf e
theorem Paired.mapP {α β:Type}{F G:α->β->Prop}:∀{aI:List α}{aH:List β},Paired F aI aH->(∀a b,F a b->G a b)->Paired G aI aH
 | _,_,.nil,_=>.nil
 | _,_,.cons r t,f=>.cons (f _ _ r) (Paired.mapP t f)
def aZ.stay (x:aZ P w H h a o) (k:∀b u,(b=a\/H b=some (.own a))->h.get? b=some u->h'.get? b=some u)
  (ho:∀b,H b=some (.own a)->H' b=some (.own a)) (ht:∀b xs,H b=some (.tup xs)->H' b=some (.tup xs)):aZ P w H' h' a o:=by
 induction o with
 | lst xs=>obtain ⟨z,its,n,r,e⟩:=x;exact ⟨z,its,n,r,k _ _ (.inl rfl) e⟩
 | tup xs=>obtain ⟨z,its,r,ob,e,c⟩:=x;exact ⟨z,its,r,ob,k _ _ (.inl rfl) e,c⟩
 | dK kvs=>obtain ⟨z,y,vs,r,ob,es,ep,e,c⟩:=x;exact ⟨z,y,vs,r,ob,es,ep,k _ _ (.inl rfl) e,c⟩
 | dT kvs =>
  obtain ⟨z,y,xs,r,ob,es,ep,e,c⟩:=x
  exact ⟨z,y,xs,Paired.mapP r λp q z=>⟨z.1,ht _ _ z.2.1,z.2.2⟩,ob,es,ep,k _ _ (.inl rfl) e,c⟩
 | set S n=>obtain ⟨ob,es,ep,t,e,c⟩:=x;exact ⟨ob,es,ep,t,k _ _ (.inl rfl) e,c⟩
 | ins C dx fs =>
  obtain ⟨d,z,ne,e,mA,⟨od,es,ep,e2,c⟩,r⟩:=x
  exact ⟨ho _ d,z,ne,k _ _ (.inl rfl) e,mA,⟨od,es,ep,k _ _ (.inr d) e2,c⟩,r⟩
 | own y=>obtain ⟨ob,e⟩:=x;exact ⟨ob,k _ _ (.inl rfl) e⟩
 | xd fs=>obtain ⟨mA,⟨od,es,ep,e,c⟩,r⟩:=x;exact ⟨mA,⟨od,es,ep,k _ _ (.inl rfl) e,c⟩,r⟩
 | rng lo hi=>obtain ⟨t,u,v,e⟩:=x;exact ⟨t,u,v,k _ _ (.inl rfl) e⟩
 | frz ob u ih=>obtain ⟨e,q⟩:=x;exact ⟨k _ _ (.inl rfl) e,ih q⟩
 | tbl ps =>
  have e:h.get? a=some { cls:=.none,data:=.fields ps }:=x
  show h'.get? a=some { cls:=.none,data:=.fields ps }
  exact k a _ (.inl rfl) e
 | met f y =>
  have e:h.get? a=some (PySem.W.methodObj (.ref f) (.ref y)):=x
  show h'.get? a=some (PySem.W.methodObj (.ref f) (.ref y))
  exact k a _ (.inl rfl) e
 | ext φ=>obtain ⟨p,⟨o,e⟩,st⟩:=x;exact ⟨st _ _ p λo q=>k _ _ (.inl rfl) q,⟨o,k _ _ (.inl rfl) e⟩,st⟩
def bR.lt (x:bR P w H h) (e:H a=some o):a<h.objs.size:=(x a o e).lt
def bR.fresh (x:bR P w H h) (e:h.objs.size<=a):H a=none:=by
 cases q:H a with
 | none=>rfl
 | some u=>exact absurd (jd (x.lt q) e) (Nat.lt_irrefl _)
def bR.kept (x:bR P w H h) (k:∀b u,h.get? b=some u->h'.get? b=some u):bR P w H h':=λa o e =>
 (x a o e).stay (λb u _ q=>k b u q) (λ_ q=>q) λ_ _ q=>q
def bR.laid (x:bR P w H h) (k:∀b u,h.get? b=some u->h'.get? b=some u) (hp:h.objs.size<=a) (new:aZ P w (upd H a o) h' a o):bR P w (upd H a o) h':=λb u e=>by
 have hn:=x.fresh hp
 by_cases hb:b=a
 ·subst hb;rw [yx] at e;cases e;exact new
 ·rw [zW hb] at e
  exact (x b u e).stay (λc v _ q=>k c v q) (λc q=>by rw [zW (wA q hn)];exact q) λc xs q=>by rw [zW (wA q hn)];exact q
end
def Rd (H:Hp) (a:Addr) (u:HO):Prop:=H a=some u\/∃o,H a=some (.frz o u)
def Rd.ok {P:Program}{w:World}{H:Hp}{h:Heap}{a:Addr}{u:HO}(r:Rd H a u) (x:bR P w H h):aZ P w H h a u:=by
 rcases r with r|⟨o,r⟩
 ·exact x a u r
 ·obtain ⟨_,q⟩:=x a _ r
  exact q
def ng:Option HO->Prop
 | some (.lst _)=>True
 | some (.dK _)=>True
 | some (.dT _)=>True
 | some (.set _ _)=>True
 | some (.ins _ _ _)=>True
 | some (.ext _)=>True
 | _=>False
section
variable {P:Program}{w:World}{H:Hp}{h h':Heap}{x e:Addr}{o':HO}
def bR.write (ok:bR P w H h) (mu:ng (H x)) (he:e=x\/H e=some (.own x)) (k:∀b u,b≠e->h.get? b=some u->h'.get? b=some u) (l7:∃u,h'.get? e=some u)
  (new:aZ P w (upd H x o') h' x o'):bR P w (upd H x o') h':=λb u q=>by
 have nown:∀c y,H c=some (.own y)->c≠x:=λc y r z=>by subst z;rw [r] at mu;exact mu
 have xG:∀c xs,H c=some (.tup xs)->c≠x:=λc xs r z=>by subst z;rw [r] at mu;exact mu
 by_cases hb:b=x
 ·subst hb;rw [yx] at q;cases q;exact new
 ·rw [zW hb] at q
  by_cases hbe:b=e
  ·have q':H b=some (.own x):=by
    rcases he with z|z
    ·exact absurd (hbe.trans z) hb
    ·rw [hbe];exact z
   rw [q] at q';cases q'
   obtain ⟨v,hv⟩:=l7
   exact ⟨v,by rw [hbe];exact hv⟩
  ·refine (ok b u q).stay (λc v hc r=>k c v ?_ r) (λc r=>by rw [zW (nown c b r)];exact r) λc xs r=>by rw [zW (xG c xs r)];exact r
   rcases hc with rfl|hc
   ·exact hbe
   ·rintro rfl
    rcases he with z|z
    ·exact nown c b hc z
    ·rw [hc] at z;cases z;exact hb rfl
end
structure Un (fs ex:Ae) (H H':Hp) (h h':Heap):Prop where
 keep:∀b o,h.get? b=some o->H b=none->b∉fs->b∉ex->h'.get? b=some o
 slot:∀b o,h.get? b=some o->H b=none->b∈fs->b∉ex->∃sl,h'.get? b=some { o with slots:=sl }
 free:∀b o,h.get? b=some o->H b=none->b∉ex->H' b=none
 there:∀b o,h.get? b=some o->b∉ex->∃o',h'.get? b=some o'
 tups:∀b xs,H b=some (.tup xs)->H' b=some (.tup xs)
 frzs:∀b o u,H b=some (.frz o u)->H' b=some (.frz o u)
 tbls:∀b ps,H b=some (.tbl ps)->∃more,H' b=some (.tbl (ps++more))
section
variable {fs F1 ex V4:Ae}{H H1 H2:Hp}{h h1 h2 h':Heap}{a x e:Addr}{o:HO}
def Un.any (u:Un fs ex H H1 h h1) {b:Addr}{ob:Obj}(q:h.get? b=some ob) (n:H b=none) (hx:b∉ex):∃sl,h1.get? b=some { ob with slots:=sl }:=by
 by_cases hb:b∈fs
 ·exact u.slot b ob q n hb hx
 ·exact ⟨ob.slots,u.keep b ob q n hb hx⟩
def Un.trans (a:Un fs ex H H1 h h1) (b:Un fs ex H1 H2 h1 h2):Un fs ex H H2 h h2 where
 keep:=λc ob q n hc hx=>b.keep c ob (a.keep c ob q n hc hx) (a.free c ob q n hx) hc hx
 slot:=λc ob q n hc hx=>by
  obtain ⟨sl,e1⟩:=a.slot c ob q n hc hx
  obtain ⟨pM,e2⟩:=b.slot c _ e1 (a.free c ob q n hx) hc hx
  exact ⟨pM,e2⟩
 free:=λc ob q n hx=>by
  obtain ⟨o',e1⟩:=a.there c ob q hx
  exact b.free c o' e1 (a.free c ob q n hx) hx
 there:=λc ob q hx=>by
  obtain ⟨o',e1⟩:=a.there c ob q hx
  exact b.there c o' e1 hx
 tups:=λc xs q=>b.tups c xs (a.tups c xs q)
 frzs:=λc ob xs q=>b.frzs c ob xs (a.frzs c ob xs q)
 tbls:=λc ps q=>by
  obtain ⟨m1,e1⟩:=a.tbls c ps q
  obtain ⟨m2,e2⟩:=b.tbls c _ e1
  exact ⟨m1++m2,by rw [e2,Array.append_assoc]⟩
def Un.kept (k:∀b u,h.get? b=some u->h'.get? b=some u):Un fs ex H H h h' :=
 ⟨λb ob q _ _ _=>k b ob q,λb ob q _ _ _=>⟨ob.slots,k b ob q⟩,λ_ _ _ n _=>n,λb ob q _=>⟨ob,k b ob q⟩,λ_ _ q=>q,λ_ _ _ q=>q,λ_ ps q=>⟨#[],by rw [q];simp⟩⟩
def Un.refl:Un fs ex H H h h:=Un.kept λ_ _ q=>q
def Un.laid (k:∀b u,h.get? b=some u->h'.get? b=some u) (hp:h.objs.size<=a) (hn:H a=none):Un fs ex H (upd H a o) h h' where
 keep:=λb u q _ _ _=>k b u q
 slot:=λb u q _ _ _=>⟨u.slots,k b u q⟩
 free:=λb u q n _=>by rw [zW (yz (jd (yf q) hp))];exact n
 there:=λb u q _=>⟨u,k b u q⟩
 tups:=λb xs q=>by rw [zW (wA q hn)];exact q
 frzs:=λb u xs q=>by rw [zW (wA q hn)];exact q
 tbls:=λb ps q=>⟨#[],by rw [zW (wA q hn),q];simp⟩
def Un.write (mu:ng (H x)) (he:e=x\/H e=some (.own x)) (k:∀b u,b≠e->h.get? b=some u->h'.get? b=some u) (l7:∃u,h'.get? e=some u):Un fs ex H (upd H x o) h h':=by
 have hx:∀b,H b=none->b≠x:=λb n z=>by subst z;rw [n] at mu;exact mu
 have hb:∀b,H b=none->b≠e:=λb n z=>by
  subst z
  rcases he with r|r
  ·exact hx b n r
  ·rw [n] at r;cases r
 have hm:∀b u,H b=some u->¬ng (some u)->b≠x:=λb u q nm z=>by subst z;rw [q] at mu;exact nm mu
 refine ⟨λb u q n _ _=>k b u (hb b n) q,λb u q n _ _=>⟨u.slots,k b u (hb b n) q⟩,λb u q n _=>by rw [zW (hx b n)];exact n,λb u q _=>?_,
  λb xs q=>by rw [zW (hm b _ q λz=>z)];exact q,λb u xs q=>by rw [zW (hm b _ q λz=>z)];exact q,λb ps q=>⟨#[],by rw [zW (hm b _ q λz=>z),q];simp⟩⟩
 by_cases hbe:b=e
 ·subst hbe;exact l7
 ·exact ⟨u,k b u hbe q⟩
end
def pN (h:Heap) (H:Hp):Ae:=(List.range h.objs.size).filter λa=>(H a).isSome
def eS (h:Heap) (H:Hp):Heap:=PySem.W.hideAll h (pN h H)
def F2 (h:Heap) (H:Hp):(eS h H).objs.size=h.objs.size:=PySem.W.hideAll_size _ _
def F5 {h:Heap}{H:Hp}{b:Addr}{o:Obj}(e:h.get? b=some o) (n:H b=none):(eS h H).get? b=some o :=
 PySem.W.hideAll_get _ e λhm=>by
  have q:(H b).isSome=true:=(List.mem_filter.mp hm).2
  rw [n] at q;simp at q
def F6 {h:Heap}{H:Hp}{b:Addr}{o:Obj}(e:(eS h H).get? b=some o):h.get? b=some o/\H b=none:=by
 have e':h.get? b=some o:=PySem.W.of_hideAll (pN h H) e
 refine ⟨e',?_⟩
 cases q:H b with
 | none=>rfl
 | some x =>
  have hm:b∈pN h H:=List.mem_filter.mpr ⟨m9.mpr (yf e'),by simp [q]⟩
  have z:(eS h H).get? b=none:=PySem.W.hideAll_none (pN h H) hm
  rw [z] at e;cases e
def ni (g h:Heap) (L:Addr):Ac:=(List.range h.objs.size).filterMap λa=>if a=L\/(g.get? a).isSome=true then none else (h.get? a).map λo=>(a,o)
def rest (g h:Heap) (L d:Addr):Ac:=(ni g h L).filter λp=>decide (p.1≠d)
structure Mod (K:PySem.W.Frag) (mg:Ab) (base:Heap):Prop where
 kin:K.In base
 glob:base.Ns mainGlobals mg
 blt:∃mb,base.Ns builtinsNs mb/\∀x:Str,x ≠ "__name__" -> mb x=bootBuiltins x
 nolimit:base.NoLimit
structure Cx where
 prog:Program
 w:World
 K:PySem.W.Frag
 mg:Ab
 base:Heap
 A:Around
 N:Ad
 s₀:Shared
 H₀:Hp
 env:Env
 outer:List Env
 stack:List Env
 ex:Ae
 fn:Str->Bool
 calm:Bool
 pn:Ac
 xe:Aa
def cN (l:List Env):Ae:=l.filterMap (·.frame)
abbrev Cx.fs (X:Cx):Ae:=cN X.outer
def nj (sc:Scope) (x:Str):Prop:=sc.names.lookup x=some .local\/sc.names.lookup x=some .cell\/sc.names.lookup x=some .free
def Loc (sc:Scope) (x:Str):Prop:=sc.names.lookup x=some .local\/sc.names.lookup x=some .cell
def Look (env:Env) (h:Heap) (m:Ab) (x:Str) (u:Value):Prop :=
 (env.kindOf x=some .local/\m x=some u)\/((env.kindOf x=some .cell\/env.kindOf x=some .free)/\∃c,env.cells.lookup x=some c/\h.IsCell c (some u))
structure Cx.Ok (X:Cx):Prop where
 mod:Mod X.K X.mg X.base
 kind:X.env.scope.kind=.function
 glob:X.env.globals=mainGlobals
 blt:X.env.builtins=builtinsNs
 above:X.s₀.heap.objs.size<=X.env.locals
 inj:∀x y c,X.env.cells.lookup x=some c->X.env.cells.lookup y=some c->x=y
 has:∀x,(X.env.kindOf x=some .cell\/X.env.kindOf x=some .free)->∃c,X.env.cells.lookup x=some c
 cab:∀x c,X.fn x=true->X.env.cells.lookup x=some c->X.s₀.heap.objs.size<=c
 hd:X.calm=true->X.A.handled=none
 frames:X.A.frames=some X.stack
 stk:X.stack=X.outer\/(X.stack=X.env::X.outer/\X.env.frame=some X.env.locals)
 exf:∀b∈X.ex,b≠X.env.locals/\∀x c,X.env.cells.lookup x=some c->c≠b
 bs:∀b o,X.base.get? b=some o->X.s₀.heap.get? b=some o/\X.H₀ b=none
 bsz:X.base.objs.size<=X.s₀.heap.objs.size
 noex:∀b o,X.base.get? b=some o->b∉X.ex
 exfs:∀b∈X.ex,b∉X.fs
 funs:X.s₀.heap.FunFrames X.base X.outer
 frf:∀b∈X.fs,X.H₀ b=none
structure Inv (X:Cx) (pins:Ac) (U:List (Option V)) (H:Hp) (s:Shared):Prop where
 ok:X.Ok
 os:s.os=X.s₀.os
 bare:AllBare s.gens
 base:Un X.fs X.ex X.H₀ H X.s₀.heap s.heap
 loc:∃m,s.heap.Ns X.env.locals m/\∀(i:Nat) (x:Str) (v:V),X.N[i]?=some x->U[i]?=some (some v)->nj X.env.scope x->∃u,RelV v u/\Look X.env s.heap m x u
 cell:∀x c,X.env.cells.lookup x=some c->∃v,s.heap.IsCell c v
 free:H X.env.locals=none
 freeC:∀x c,X.env.cells.lookup x=some c->H c=none
 pin:∀p∈X.pn++pins,s.heap.get? p.1=some p.2/\H p.1=none/\p.1≠X.env.locals/\p.1∉X.fs/\∀v,p.2.data ≠ .cell v
 hok:bR X.prog X.w H s.heap
 len:U.length=X.N.length
section
variable {X:Cx}{pins:Ac}{U:List (Option V)}{H H':Hp}{s:Shared}{h':Heap}
def Cx.Ok.nofr (ok:X.Ok) {b:Addr}{o:Obj}(e:X.base.get? b=some o):b∉X.fs:=λhb=>by
 have:=(ok.funs.mem hb).1
 rw [e] at this;cases this
def Inv.bs (I:Inv X pins U H s):∀b o,X.base.get? b=some o->s.heap.get? b=some o/\H b=none:=λb o e =>
 ⟨I.base.keep b o (I.ok.bs b o e).1 (I.ok.bs b o e).2 (I.ok.nofr e) (I.ok.noex b o e),I.base.free b o (I.ok.bs b o e).1 (I.ok.bs b o e).2 (I.ok.noex b o e)⟩
def Inv.bk (I:Inv X pins U H s):∀b o,X.base.get? b=some o->s.heap.get? b=some o:=λb o e=>(I.bs b o e).1
def Inv.mod (I:Inv X pins U H s):Mod X.K X.mg X.base:=I.ok.mod
def Inv.kIn (I:Inv X pins U H s):X.K.In s.heap:=I.ok.mod.kin.keeps I.bk
def Inv.fr (I:Inv X pins U H s):∃m,Fr X.base X.env.locals s.heap m :=
 let ⟨m,hn,_⟩:=I.loc
 ⟨m,hn,I.bk,y6 I.ok.bsz I.ok.above⟩
def Inv.lt (I:Inv X pins U H s):X.env.locals<s.heap.objs.size:=let ⟨_,hn,_⟩:=I.loc;hn.lt
def Inv.sz (I:Inv X pins U H s):X.s₀.heap.objs.size<=s.heap.objs.size:=y6 I.ok.above (Nat.le_of_lt I.lt)
def Inv.nofs (I:Inv X pins U H s) {a:Addr}(h:s.heap.objs.size<=a):a∉X.fs:=λhb=>by
 obtain ⟨_,o,ho,_⟩:=I.ok.funs.mem hb
 exact absurd (jd (yf ho) (y6 I.sz h)) (Nat.lt_irrefl _)
def Inv.cne (I:Inv X pins U H s):∀x c,X.env.cells.lookup x=some c->c≠X.env.locals:=λx c e z=>by
 obtain ⟨v,o,ho,hd⟩:=I.cell x c e
 obtain ⟨m,⟨o',es,ep,ho',dH,_⟩,_⟩:=I.loc
 rw [z,ho'] at ho;cases ho;rw [dH] at hd;cases hd
def Inv.funs (I:Inv X pins U H s):s.heap.FunFrames X.base X.outer:=by
 have all:∀(l:List Env),(∀b∈cN l,b∈X.fs)->X.s₀.heap.FunFrames X.base l->s.heap.FunFrames X.base l:=by
  intro l
  induction l with
  | nil=>intro _ _;trivial
  | cons env r ih =>
   intro hs hl
   obtain ⟨hk,⟨L,o,hf,hn,ho,hd⟩,hr⟩:=hl
   have hL:L∈X.fs:=hs L (by unfold cN;rw [List.filterMap_cons,hf];exact jk)
   obtain ⟨sl,e⟩:=I.base.slot L o ho (I.ok.frf L hL) hL λz=>I.ok.exfs L z hL
   exact ⟨hk,⟨L,_,hf,hn,e,hd⟩,ih (λb hb=>hs b (by unfold cN;rw [List.filterMap_cons,hf];exact jr _ hb)) hr⟩
 exact all X.outer (λ_ hb=>hb) I.ok.funs
def Inv.stack (I:Inv X pins U H s):s.heap.FunFrames X.base X.stack:=by
 rcases I.ok.stk with e|⟨e,hf⟩
 ·rw [e];exact I.funs
 ·rw [e]
  obtain ⟨m,hn,_⟩:=I.loc
  refine .cons (by rw [I.ok.kind];decide) hf hn ?_ I.funs
  exact Heap.get?_none_of_le (y6 I.ok.bsz I.ok.above)
def Inv.stkSub (I:Inv X pins U H s):∀b∈cN X.stack,b∈X.env.locals::X.fs:=λb hb=>by
 rcases I.ok.stk with e|⟨e,hf⟩
 ·rw [e] at hb;exact jr _ hb
 ·rw [e] at hb
  unfold cN at hb
  rw [List.filterMap_cons,hf] at hb
  exact hb
def Inv.stkFree (I:Inv X pins U H s):∀b∈cN X.stack,H b=none:=λb hb=>by
 rcases yE.mp (I.stkSub b hb) with e|hb
 ·rw [e];exact I.free
 ·obtain ⟨_,o,ho,_⟩:=I.ok.funs.mem hb
  exact I.base.free b o ho (I.ok.frf b hb) λz=>I.ok.exfs b z hb
def Inv.step {g':Array GenState}{t':Nat}{d':Drawn}{ch:Ae}(I:Inv X pins U H s)
  (gE:∀b∈ch,(b∈X.ex\/X.s₀.heap.objs.size<=b)/\b≠X.env.locals/\(∀x c,X.env.cells.lookup x=some c->c≠b)/\∀p∈X.pn++pins,p.1≠b)
  (keep:∀b o,b≠X.env.locals->b∉X.fs->b∉ch->s.heap.get? b=some o->H b=none->h'.get? b=some o)
  (slot:∀b o,b≠X.env.locals->b∈X.fs->b∉ch->s.heap.get? b=some o->H b=none->∃sl,h'.get? b=some { o with slots:=sl }) (free:∀b o,b∉ch->s.heap.get? b=some o->H b=none->H' b=none)
  (there:∀b o,b∉ch->s.heap.get? b=some o->∃o',h'.get? b=some o')
  (tups:∀b xs,H b=some (.tup xs)->H' b=some (.tup xs)) (frzs:∀b o u,H b=some (.frz o u)->H' b=some (.frz o u)) (tbls:∀b ps,H b=some (.tbl ps)->∃more,H' b=some (.tbl (ps++more)))
  (ns:∀m,s.heap.Ns X.env.locals m->h'.Ns X.env.locals m) (hok:bR X.prog X.w H' h') (hg:AllBare g') :
  Inv X pins U H' { s with heap:=h',gens:=g',drawn:=d',toks:=t' }:=by
 have xH:∀b o,X.s₀.heap.get? b=some o->b≠X.env.locals:=λb o e=>yz (jd (yf e) I.ok.above)
 have gF:∀b o,X.s₀.heap.get? b=some o->b∉X.ex->b∉ch:=λb o e hx hb=>by
  rcases (gE b hb).1 with z|z
  ·exact hx z
  ·exact absurd (jd (yf e) z) (Nat.lt_irrefl _)
 have cellK:∀x c,X.env.cells.lookup x=some c->∀v,s.heap.IsCell c v->h'.IsCell c v:=λx c e v ⟨o,ho,hd⟩=>by
  have fY:c∉ch:=λz=>(gE c z).2.2.1 x c e rfl
  by_cases hc:c∈X.fs
  ·obtain ⟨sl,q⟩:=slot c o (I.cne x c e) hc fY ho (I.freeC x c e)
   exact ⟨_,q,hd⟩
  ·exact ⟨o,keep c o (I.cne x c e) hc fY ho (I.freeC x c e),hd⟩
 refine ⟨I.ok,I.os,hg,⟨λb o e n hb hx=>?_,λb o e n hb hx=>?_,λb o e n hx=>?_,λb o e hx=>?_,λb xs e=>tups b xs (I.base.tups b xs e),λb o xs e=>frzs b o xs (I.base.frzs b o xs e),λb ps e=>?_⟩,?_,λx c e=>?_,?_,λx c e=>?_,λp hp=>?_,hok,I.len⟩
 ·exact keep b o (xH b o e) hb (gF b o e hx) (I.base.keep b o e n hb hx) (I.base.free b o e n hx)
 ·obtain ⟨sl,e1⟩:=I.base.slot b o e n hb hx
  obtain ⟨pM,e2⟩:=slot b _ (xH b o e) hb (gF b o e hx) e1 (I.base.free b o e n hx)
  exact ⟨pM,e2⟩
 ·obtain ⟨o',e1⟩:=I.base.there b o e hx
  exact free b o' (gF b o e hx) e1 (I.base.free b o e n hx)
 ·obtain ⟨o',e1⟩:=I.base.there b o e hx
  exact there b o' (gF b o e hx) e1
 ·obtain ⟨m1,e1⟩:=I.base.tbls b ps e
  obtain ⟨m2,e2⟩:=tbls b _ e1
  exact ⟨m1++m2,by rw [e2,Array.append_assoc]⟩
 ·obtain ⟨m,hn,hl⟩:=I.loc
  refine ⟨m,ns m hn,λi x v e1 e2 e3=>?_⟩
  obtain ⟨u,r,l⟩:=hl i x v e1 e2 e3
  refine ⟨u,r,?_⟩
  rcases l with l|⟨k,c,e,z⟩
  ·exact .inl l
  ·exact .inr ⟨k,c,e,cellK x c e _ z⟩
 ·obtain ⟨v,z⟩:=I.cell x c e
  exact ⟨v,cellK x c e v z⟩
 ·obtain ⟨m,⟨o,_,_,ho,_⟩,_⟩:=I.loc
  exact free _ o (λz=>(gE _ z).2.1 rfl) ho I.free
 ·obtain ⟨v,o,ho,hd⟩:=I.cell x c e
  exact free c o (λz=>(gE c z).2.2.1 x c e rfl) ho (I.freeC x c e)
 ·obtain ⟨e,n,ne,nf,d⟩:=I.pin p hp
  have fY:p.1∉ch:=λz=>(gE p.1 z).2.2.2 p hp rfl
  exact ⟨keep p.1 p.2 ne nf fY e n,free p.1 p.2 fY e n,ne,nf,d⟩
def Inv.un {t':Nat}(I:Inv X pins U H s) (u:Un X.fs [] H H' s.heap h') (hok:bR X.prog X.w H' h'):Inv X pins U H' { s with heap:=h',toks:=t' }:=by
 obtain ⟨m,⟨o,es,ep,ho,r⟩,_⟩:=id I.loc
 obtain ⟨sl,hL⟩:=u.any ho I.free (by simp)
 exact I.step (g':=s.gens) (d':=s.drawn) (ch:=[]) (λ_ z=>nomatch z) (λb o _ hb _ e n=>u.keep b o e n hb (by simp)) (λb o _ hb _ e n=>u.slot b o e n hb (by simp)) (λb o _ e n=>u.free b o e n (by simp)) (λb o _ e=>u.there b o e (by simp)) u.tups u.frzs u.tbls (λm' hm=>by
  obtain ⟨o',si,sj,ho',r'⟩:=hm
  rw [ho] at ho';cases ho'
  exact ⟨_,si,sj,hL,r'⟩) hok I.bare
def Inv.call {g':Array GenState}{t':Nat}{d':Drawn}{ch:Ae}(I:Inv X pins U H s) (u:Un (cN X.stack) ch H H' s.heap h') (hok:bR X.prog X.w H' h') (hg:AllBare g')
  (gE:∀b∈ch,(b∈X.ex\/X.s₀.heap.objs.size<=b)/\b≠X.env.locals/\(∀x c,X.env.cells.lookup x=some c->c≠b)/\∀p∈X.pn++pins,p.1≠b) :
  Inv X pins U H' { s with heap:=h',gens:=g',drawn:=d',toks:=t' }:=by
 obtain ⟨m,⟨o,es,ep,ho,r⟩,_⟩:=id I.loc
 obtain ⟨sl,hL⟩:=u.any ho I.free λz=>(gE _ z).2.1 rfl
 exact I.step (ch:=ch) gE (λb o hL hb hc e n=>u.keep b o e n (λz=>(yE.mp (I.stkSub b z)).elim hL hb) hc) (λb o _ _ hc e n=>u.any e n hc) (λb o hc e n=>u.free b o e n hc) (λb o hc e=>u.there b o e hc) u.tups u.frzs u.tbls (λm' hm=>by
  obtain ⟨o',si,sj,ho',r'⟩:=hm
  rw [ho] at ho';cases ho'
  exact ⟨_,si,sj,hL,r'⟩) hok hg
def Inv.turned {t':Nat}{it:Addr}(I:Inv X pins U H s) (k:∀b o,b≠it->s.heap.get? b=some o->h'.get? b=some o) (hn:H it=none) (hL:it≠X.env.locals)
  (h1:it∈X.ex\/X.s₀.heap.objs.size<=it) (h2:∀x c,X.env.cells.lookup x=some c->c≠it) (h3:∀p∈X.pn++pins,p.1≠it):Inv X pins U H { s with heap:=h',toks:=t' }:=by
 have xI:∀b u,H b=some u->b≠it:=λb u e z=>by rw [z,hn] at e;cases e
 refine I.step (g':=s.gens) (d':=s.drawn) (ch:=[it]) (λb hb=>?_) (λb o _ _ hc e _=>k b o (λz=>hc (by simp [z])) e) (λb o _ _ hc e _=>⟨o.slots,k b o (λz=>hc (by simp [z])) e⟩) (λ_ _ _ _ n=>n)
  (λb o hc e=>⟨o,k b o (λz=>hc (by simp [z])) e⟩) (λ_ _ e=>e) (λ_ _ _ e=>e) (λb ps e=>⟨#[],by rw [e];simp⟩) (λm hm=>?_) (λb u e=>?_) I.bare
 ·have e:b=it:=by simpa using hb
  subst e
  exact ⟨h1,hL,h2,h3⟩
 ·obtain ⟨o,es,ep,ho,r⟩:=hm
  exact ⟨o,es,ep,k _ o (yD hL) ho,r⟩
 ·refine (I.hok b u e).stay (λc v hc q=>k c v ?_ q) (λ_ q=>q) λ_ _ q=>q
  rcases hc with z|z
  ·rw [z];exact xI b u e
  ·exact xI c _ z
def Inv.tok (I:Inv X pins U H s) (t:Nat):Inv X pins U H { s with toks:=t }:=I.un (h':=s.heap) (t':=t) Un.refl I.hok
def Inv.kept {t':Nat}(I:Inv X pins U H s) (k:∀b u,s.heap.get? b=some u->h'.get? b=some u):Inv X pins U H { s with heap:=h',toks:=t' }:=I.un (Un.kept k) (I.hok.kept k)
def Inv.laid {a:Addr}{o:HO}{t':Nat}(I:Inv X pins U H s) (k:∀b u,s.heap.get? b=some u->h'.get? b=some u) (hp:s.heap.objs.size<=a) (new:aZ X.prog X.w (upd H a o) h' a o) :
  Inv X pins U (upd H a o) { s with heap:=h',toks:=t' }:=I.un (Un.laid k hp (I.hok.fresh hp)) (I.hok.laid k hp new)
def Inv.write {x e:Addr}{o:HO}{t':Nat}(I:Inv X pins U H s) (mu:ng (H x)) (he:e=x\/H e=some (.own x)) (k:∀b u,b≠e->s.heap.get? b=some u->h'.get? b=some u) (l7:∃u,h'.get? e=some u)
  (new:aZ X.prog X.w (upd H x o) h' x o):Inv X pins U (upd H x o) { s with heap:=h',toks:=t' }:=I.un (Un.write mu he k l7) (I.hok.write mu he k l7 new)
def Inv.weak {ai:List (Option V)}(I:Inv X pins U H s) (hl:ai.length=U.length) (w:∀(i:Nat) v,ai[i]?=some (some v)->U[i]?=some (some v)):Inv X pins ai H s :=
 ⟨I.ok,I.os,I.bare,I.base,let ⟨m,hn,sk⟩:=I.loc;⟨m,hn,λi x v e1 e2 e3=>sk i x v e1 (w i v e2) e3⟩,I.cell,I.free,I.freeC,I.pin,I.hok,hl.trans I.len⟩
def Inv.pins_of {pins':Ac}(I:Inv X pins U H s) (h:∀p∈pins',s.heap.get? p.1=some p.2/\H p.1=none/\p.1≠X.env.locals/\p.1∉X.fs/\∀v,p.2.data ≠ .cell v):Inv X pins' U H s :=
 ⟨I.ok,I.os,I.bare,I.base,I.loc,I.cell,I.free,I.freeC,λp hp=>(m8.mp hp).elim (λz=>I.pin p (lV _ z)) (h p),I.hok,I.len⟩
def sr {N:Ad}(hN:N.Nodup) {i j:Nat}{x:Str}(a:N[i]?=some x) (b:N[j]?=some x):i=j:=by
 obtain ⟨h1,e1⟩:=yt.mp a
 obtain ⟨h2,e2⟩:=yt.mp b
 exact (List.getElem_inj hN).mp (e1.trans e2.symm)
def F7 {M:Model}{A:Around}{E:Aa}{i:Nat}{x:Str}{v:V}{u:Value}{Q:Unit->Shared->Prop}(I:Inv X pins U H s) (hN:X.N.Nodup) (hi:X.N[i]?=some x) (hx:Loc X.env.scope x) (r:RelV v u)
  (h:∀s',Inv X pins (U.set i (some v)) H s'->(∃a,Heap.SameBut a s.heap s'.heap/\(a=X.env.locals\/X.env.cells.lookup x=some a))->Q () s') (hf:X.fn x=true\/X.env.scope.names.lookup x=some .local:=by first|exact .inl rfl|exact .inr rfl|assumption):wpAny M A (storeName X.env x u) Q E s:=by
 obtain ⟨m,hn,hl⟩:=id I.loc
 have fZ:(X.env.scope.kind == .class||(X.env.scope.kind == .module&&X.env.locals != X.env.globals))=false:=by rw [I.ok.kind];rfl
 have aF:i<U.length:=by rw [I.len];exact (yt.mp hi).1
 have cne:=I.cne
 have tracked:∀{a:Addr} {h':Heap},(∃o,s.heap.get? a=some o/\H a=none)->Heap.SameBut a s.heap h'->bR X.prog X.w H h':=λ{a h'} ha hs b ob e=>by
  obtain ⟨_,_,gW⟩:=ha
  refine (I.hok b ob e).stay (λc w' hc q=>(hs.2 c ?_).trans q) (λ_ q=>q) λ_ _ q=>q
  rintro rfl
  rcases hc with rfl|hc
  ·rw [gW] at e;cases e
  ·rw [gW] at hc;cases hc
 rcases hx with hk|hk
 ·refine wpAny_storeName_local hk hn (λh' su hs=>?_) fZ
  obtain ⟨oL,_,_,l8,_⟩:=id hn
  refine h _ ⟨I.ok,I.os,I.bare,⟨λb o e n hb hx=>?_,λb o e n hb hx=>?_,I.base.free,λb o e hx=>?_,I.base.tups,I.base.frzs,I.base.tbls⟩,⟨_,su,λj y v' e1 e2 e3=>?_⟩,λy c e=>?_,I.free,I.freeC,λp hp=>?_,tracked ⟨oL,l8,I.free⟩ hs,by simpa using I.len⟩ ⟨_,hs,.inl rfl⟩
  ·exact (hs.2 b (yz (jd (yf e) I.ok.above))).trans (I.base.keep b o e n hb hx)
  ·obtain ⟨sl,e1⟩:=I.base.slot b o e n hb hx
   exact ⟨sl,(hs.2 b (yz (jd (yf e) I.ok.above))).trans e1⟩
  ·obtain ⟨o',e1⟩:=I.base.there b o e hx
   exact ⟨o',(hs.2 b (yz (jd (yf e) I.ok.above))).trans e1⟩
  ·by_cases hj:j=i
   ·subst hj
    rw [hi] at e1;cases e1
    rw [yM aF] at e2
    cases e2
    exact ⟨u,r,.inl ⟨hk,by simp⟩⟩
   ·rw [yR (yD hj)] at e2
    obtain ⟨u',r',q⟩:=hl j y v' e1 e2 e3
    refine ⟨u',r',?_⟩
    rcases q with ⟨k,e⟩|⟨k,c,e,z⟩
    ·refine .inl ⟨k,?_⟩
     have:y≠x:=λe=>hj (sr hN e1 (e▸hi))
     simp [this,e]
    ·exact .inr ⟨k,c,e,z.sameBut hs (cne y c e)⟩
  ·obtain ⟨w',z⟩:=I.cell y c e
   exact ⟨w',z.sameBut hs (cne y c e)⟩
  ·obtain ⟨e,n,ne,nf,d⟩:=I.pin p hp
   exact ⟨(hs.2 p.1 ne).trans e,n,ne,nf,d⟩
 ·have nk:X.fn x=true:=by
   rcases hf with z|z
   ·exact z
   ·rw [z] at hk;cases hk
  obtain ⟨c,hc⟩:=I.ok.has x (.inl hk)
  obtain ⟨w',z⟩:=I.cell x c hc
  refine wpAny_storeName_cell I.ok.kind hk hc z (λh' cI hs=>?_)
  obtain ⟨oc,xJ,xK⟩:=id z
  refine h { s with heap:=h' } ⟨I.ok,I.os,I.bare,⟨λb o e n hb hx=>?_,λb o e n hb hx=>?_,I.base.free,λb o e hx=>?_,I.base.tups,I.base.frzs,I.base.tbls⟩,⟨m,hn.sameBut hs (yD (cne x c hc)),λj y v' e1 e2 e3=>?_⟩,λy c' e=>?_,I.free,I.freeC,λp hp=>?_,tracked ⟨oc,xJ,I.freeC x c hc⟩ hs,by simpa using I.len⟩ ⟨c,hs,.inr hc⟩
  ·exact (hs.2 b (yz (jd (yf e) (I.ok.cab x c nk hc)))).trans (I.base.keep b o e n hb hx)
  ·obtain ⟨sl,e1⟩:=I.base.slot b o e n hb hx
   exact ⟨sl,(hs.2 b (yz (jd (yf e) (I.ok.cab x c nk hc)))).trans e1⟩
  ·obtain ⟨o',e1⟩:=I.base.there b o e hx
   exact ⟨o',(hs.2 b (yz (jd (yf e) (I.ok.cab x c nk hc)))).trans e1⟩
  ·by_cases hj:j=i
   ·subst hj
    rw [hi] at e1;cases e1
    rw [yM aF] at e2
    cases e2
    exact ⟨u,r,.inr ⟨.inl hk,c,hc,cI⟩⟩
   ·rw [yR (yD hj)] at e2
    obtain ⟨u',r',q⟩:=hl j y v' e1 e2 e3
    refine ⟨u',r',?_⟩
    rcases q with q|⟨k,c',e,z'⟩
    ·exact .inl q
    ·refine .inr ⟨k,c',e,z'.sameBut hs ?_⟩
     rintro rfl
     exact hj (sr hN e1 (I.ok.inj _ _ _ e hc▸hi))
  ·by_cases l9:c'=c
   ·subst l9;exact ⟨_,cI⟩
   ·obtain ⟨w2,z2⟩:=I.cell y c' e
    exact ⟨w2,z2.sameBut hs l9⟩
  ·obtain ⟨e,n,ne,nf,d⟩:=I.pin p hp
   refine ⟨(hs.2 p.1 ?_).trans e,n,ne,nf,d⟩
   intro q
   rw [q,xJ] at e
   have q':oc=p.2:=Option.some.inj e
   exact d w' (by rw [<-q'];exact xK)
def kg {M:Model}{A:Around}{E:Aa}{i:Nat}{x:Str}{v:V}{u:Value}{Q:Unit->Shared->Prop}(I:Inv X pins U H s) (hN:X.N.Nodup) (hi:X.N[i]?=some x) (hx:Loc X.env.scope x) (r:RelV v u)
  (h:∀s',Inv X pins (U.set i (some v)) H s'->Q () s') (hf:X.fn x=true\/X.env.scope.names.lookup x=some .local:=by first|exact .inl rfl|exact .inr rfl|assumption):wpAny M A (storeName X.env x u) Q E s :=
 F7 I hN hi hx r (λs' I' _=>h s' I') hf
def Inv.call' {s':Shared}{ch:Ae}(I:Inv X pins U H s) (ho:s'.os=s.os) (u:Un (cN X.stack) ch H H' s.heap s'.heap) (hok:bR X.prog X.w H' s'.heap) (hg:AllBare s'.gens)
  (gE:∀b∈ch,(b∈X.ex\/X.s₀.heap.objs.size<=b)/\b≠X.env.locals/\(∀x c,X.env.cells.lookup x=some c->c≠b)/\∀p∈X.pn++pins,p.1≠b):Inv X pins U H' s':=by
 obtain ⟨h',g',d',t',o'⟩:=s'
 have e:o'=s.os:=ho
 subst e
 exact I.call (g':=g') (t':=t') (d':=d') u hok hg gE
end
abbrev XK:=Value->Option Addr->Hp->Prop
abbrev St:=List (Option V)
abbrev VK:=V->Hp->Prop
abbrev TE:=St->Hp->VK->Prop
abbrev TT:=St->Hp->(Bool->Hp->Prop)->Prop
abbrev TA:=St->Hp->(List V->Hp->Prop)->Prop
structure Ends where
 nx:St->Hp->Prop
 rt:VK
 bk:St->Hp->Prop:=λ_ _=>False
 ct:St->Hp->Prop:=λ_ _=>False
abbrev TS:=Ends->St->Hp->Prop
def EP (X:Cx) (pins:Ac) (U:St) (Q:VK) (u:Value) (s':Shared):Prop:=∃v H',Inv X pins U H' s'/\RelV v u/\Q v H'
def TP (X:Cx) (pins:Ac) (U:St) (Q:Bool->Hp->Prop) (b:Bool) (s':Shared):Prop:=∃H',Inv X pins U H' s'/\Q b H'
def AP (X:Cx) (pins:Ac) (U:St) (Q:List V->Hp->Prop) (us:Af) (s':Shared):Prop:=∃vs H',Inv X pins U H' s'/\Vals vs us/\Q vs H'
def SP (X:Cx) (pins:Ac) (D:Ends) (f:Flow) (s':Shared):Prop :=
 match f with
 | .next=>∃ai H',Inv X pins ai H' s'/\D.nx ai H'
 | .brk=>∃ai H',Inv X pins ai H' s'/\D.bk ai H'
 | .cont=>∃ai H',Inv X pins ai H' s'/\D.ct ai H'
 | .ret u=>∃v ai H',Inv X pins ai H' s'/\RelV v u/\D.rt v H'
def PE (X:Cx) (e:Expr) (t:TE):Prop :=
 ∀(pins:Ac) (s:Shared) (U:St) (H:Hp) (Q:VK),Inv X pins U H s->t U H Q->wpAny (model X.prog X.w) X.A (eval e X.env) (EP X pins U Q) X.xe s
def PT (X:Cx) (e:Expr) (t:TT):Prop :=
 ∀(pins:Ac) (s:Shared) (U:St) (H:Hp) (Q:Bool->Hp->Prop),Inv X pins U H s->t U H Q->wpAny (model X.prog X.w) X.A (isTrue e X.env (eval e X.env)) (TP X pins U Q) X.xe s
def PW (X:Cx) (e:Expr) (t:TT):Prop :=
 ∀(whole:Sem Value) (pins:Ac) (s:Shared) (U:St) (H:Hp) (Q:Bool->Hp->Prop),Inv X pins U H s->t U H Q->wpAny (model X.prog X.w) X.A (isTrue e X.env whole) (TP X pins U Q) X.xe s
def PW.pt {X:Cx}{e:Expr}{t:TT}(h:PW X e t):PT X e t:=h _
def PA (X:Cx) (es:List Expr) (t:TA):Prop :=
 ∀(pos:Pos) (pins:Ac) (s:Shared) (U:St) (H:Hp) (Q:List V->Hp->Prop),Inv X pins U H s->t U H Q->wpAny (model X.prog X.w) X.A (spliced (backTo pos (starEach es X.env))) (AP X pins U Q) X.xe s
def PS (X:Cx) (st:Stmt) (t:TS):Prop :=
 ∀(pins:Ac) (s:Shared) (U:St) (H:Hp) (D:Ends),Inv X pins U H s->t D U H->wpAny (model X.prog X.w) X.A (exec st X.env) (SP X pins D) X.xe s
def bY (X:Cx) (st:List Stmt) (t:TS):Prop :=
 ∀(pins:Ac) (s:Shared) (U:St) (H:Hp) (D:Ends),Inv X pins U H s->t D U H->wpAny (model X.prog X.w) X.A (execs st X.env) (SP X pins D) X.xe s
def aU {α:Type}{t:Sem α}{Q Q':α->Shared->Prop}{M:Model}{A:Around}{E:Aa}{s:Shared}(h:wpAny M A t Q E s) (hQ:∀a s,Q a s->Q' a s):wpAny M A t Q' E s:=yG h hQ λ_ _ x=>x
section
variable {X:Cx}
def pO (i:Nat):TE:=λU H Q=>∃v,U[i]?=some (some v)/\Q v H
def tC (v:V):TE:=λ_ H Q=>Q v H
def xM {i:Nat} {x:Str} {pos:Pos} (hN:X.N[i]?=some x) (hv:nj X.env.scope x) (hd:(x==("__debug__" : Str))=false:=by decide) (eO:(x==("__classdict__" : Str))=false:=by decide):PE X (.Name x pos) (pO i):=by
 intro pins s U H Q I h
 obtain ⟨v,e,h⟩:=h
 obtain ⟨m,hn,hl⟩:=I.loc
 obtain ⟨u,r,l⟩:=hl i x v hN e hv
 have fin:EP X pins U Q u s:=⟨v,H,I,r,h⟩
 rcases l with ⟨hk,hm⟩|⟨hk,c,hc,dQ⟩
 ·exact wpAny_Name (wpAny_loadName_local I.ok.kind hk hn hm fin) hd
 ·rcases hk with hk|hk
  ·exact wpAny_Name (wpAny_loadName_cell I.ok.kind hk hc dQ fin) hd
  ·exact wpAny_Name (wpAny_loadName_free I.ok.kind hk hc dQ fin eO) hd
def F8 {i j pos}:PE X (.Constant (.int i) j pos) (tC (.int i)):=λ_ _ _ H _ I h=>wpAny_Constant_int ⟨.int i,H,I.tok _,⟨_,rfl⟩,h⟩
def F9 {b j pos}:PE X (.Constant (.bool b) j pos) (tC (.bl b)):=λ_ _ _ H _ I h=>Constant_bool ⟨.bl b,H,I,rfl,h⟩
def F_ {j pos}:PE X (.Constant .none j pos) (tC .non):=λ_ _ _ H _ I h=>Constant_none ⟨.non,H,I,rfl,h⟩
def Ga {x j pos}:PE X (.Constant (.str x) j pos) (tC (.str x)):=λ_ _ _ H _ I h=>Calls.Constant_str ⟨.str x,H,I.tok _,⟨_,rfl⟩,h⟩
def Gl (X:Cx) (x:Str):Prop:=X.env.kindOf x=some .globalImplicit
def iq {E:Aa}{pins:Ac}{s:Shared}{U:St}{H:Hp}{x:Str}{u:Value}{pos:Pos}{Q:Aa}(I:Inv X pins U H s) (hg:Gl X x) (hm:X.mg x=some u) (h:Q u s)
  (hd:(x==("__debug__" : Str))=false:=by decide):wpAny (model X.prog X.w) X.A (eval (.Name x pos) X.env) Q E s :=
 Calls.Name_function_global I.ok.kind hg (Calls.loadGlobal_global (by rw [I.ok.glob];exact I.mod.glob.keeps I.bk) hm h) hd
def iu {E:Aa}{pins:Ac}{s:Shared}{U:St}{H:Hp}{x:Str}{u:Value}{pos:Pos}{Q:Aa}(I:Inv X pins U H s) (hg:Gl X x) (hm:X.mg x=none) (hv:bootBuiltins x=some u) (h:Q u s)
  (hn:x ≠ "__name__" := by decide) (hd:(x==("__debug__" : Str))=false:=by decide):wpAny (model X.prog X.w) X.A (eval (.Name x pos) X.env) Q E s:=by
 obtain ⟨mb,h1,h2⟩:=I.mod.blt
 exact Calls.Name_function_global I.ok.kind hg (Calls.loadGlobal_builtin (by rw [I.ok.glob];exact I.mod.glob.keeps I.bk) hm (by rw [I.ok.blt];exact h1.keeps I.bk) ((h2 x hn).trans hv) h) hd
def sv {x:Str} {v:V} {u:Value} {pos:Pos} (hg:Gl X x) (hm:X.mg x=some u) (r:RelV v u) (hd:(x==("__debug__" : Str))=false:=by decide):PE X (.Name x pos) (tC v) :=
 λ_ _ _ H _ I h=>iq I hg hm ⟨v,H,I,r,h⟩ hd
def Gb {x:Str} {v:V} {u:Value} {pos:Pos} (hg:Gl X x) (hm:X.mg x=none) (hv:bootBuiltins x=some u) (r:RelV v u) (hn:x ≠ "__name__" := by decide) (hd:(x==("__debug__" : Str))=false:=by decide):PE X (.Name x pos) (tC v) :=
 λ_ _ _ H _ I h=>iu I hg hm hv ⟨v,H,I,r,h⟩ hn hd
variable {a b:Expr}{ta tb:TE}{pos:Pos}
def tB (t:TE):TT:=λU H Q=>t U H λx H1=>∃c,x=.bl c/\Q c H1
def Gd {e:Expr}{t:TE}(h:PE X e t) (he:∀whole,isTrue e X.env whole=(do let v <-whole;standAt e.pos;holding [v] (truthy v)):=by intro _;rfl):PT X e (tB t):=by
 intro pins s U H Q I hw
 refine isTrue_plain (aU (h pins s U H _ I hw) λv s1 ⟨x,H1,I1,r1,q1⟩=>?_) (he _)
 obtain ⟨d,rfl,q⟩:=q1
 cases r1
 exact wx ⟨H1,I1,q⟩
variable {tA pP:TT}{rest:List Expr}
def Ge (t u:TT):TT:=λU H Q=>t U H λc H1=>if c=true then u U H1 Q else Q false H1
def Gf (t u:TT):TT:=λU H Q=>t U H λc H1=>if c=true then Q true H1 else u U H1 Q
def Gg (t:TT):TT:=λU H Q=>t U H λc H1=>Q (!c) H1
def Gh (ha:PT X a tA):PW X (.BoolOp .And [a] pos) tA:=by
 intro wh pins s U H Q I h
 refine isTrue_and (aU (ha pins s U H Q I h) λc s1 e=>?_)
 cases c with
 | true=>exact isTrue_and_nil e
 | false=>exact e
def Gi (ha:PT X a tA):PW X (.BoolOp .Or [a] pos) tA:=by
 intro wh pins s U H Q I h
 refine isTrue_or (aU (ha pins s U H Q I h) λc s1 e=>?_)
 cases c with
 | false=>exact isTrue_or_nil e
 | true=>exact e
def Gj (ha:PT X a tA) (hb:PW X (.BoolOp .And (b::rest) pos) pP):PW X (.BoolOp .And (a::b::rest) pos) (Ge tA pP):=by
 intro wh pins s U H Q I h
 refine isTrue_and (aU (ha pins s U H _ I h) λc s1 ⟨H1,I1,q1⟩=>?_)
 cases c with
 | true=>exact hb wh pins s1 U H1 Q I1 q1
 | false=>exact ⟨H1,I1,q1⟩
def Gk (ha:PT X a tA) (hb:PW X (.BoolOp .Or (b::rest) pos) pP):PW X (.BoolOp .Or (a::b::rest) pos) (Gf tA pP):=by
 intro wh pins s U H Q I h
 refine isTrue_or (aU (ha pins s U H _ I h) λc s1 ⟨H1,I1,q1⟩=>?_)
 cases c with
 | true=>exact ⟨H1,I1,q1⟩
 | false=>exact hb wh pins s1 U H1 Q I1 q1
def Gm (ha:PT X a tA):PT X (.UnaryOp .Not a pos) (Gg tA):=by
 intro pins s U H Q I h
 exact isTrue_not (ha pins s U H (λc H1=>Q (!c) H1) I h)
def Gn (ta tb:TE):TE:=λU H Q=>ta U H λx H1=>∃c,x=.bl c/\if c=true then tb U H1 Q else Q (.bl false) H1
def Gp {op}{t:TE}(h:PE X a t):PE X (.BoolOp op [a] pos) t:=λpins s U H Q I hw=>BoolOp_one (h pins s U H Q I hw)
def Gq (ha:PE X a ta) (hb:PE X (.BoolOp .And (b::rest) pos) tb):PE X (.BoolOp .And (a::b::rest) pos) (Gn ta tb):=by
 intro pins s U H Q I h
 refine BoolOp_and (aU (ha pins s U H _ I h) λv s1 ⟨x,H1,I1,r1,q1⟩=>?_)
 obtain ⟨c,rfl,q1⟩:=q1
 cases r1
 refine wx ?_
 cases c with
 | true=>exact hb pins s1 U H1 Q I1 q1
 | false=>exact ⟨.bl false,H1,I1,rfl,q1⟩
def Gr (t:TT) (ta tb:TE):TE:=λU H Q=>t U H λc H1=>if c=true then ta U H1 Q else tb U H1 Q
def Gs {c:Expr}(hc:PT X c tA) (ha:PE X a ta) (hb:PE X b tb):PE X (.IfExp c a b pos) (Gr tA ta tb):=by
 intro pins s U H Q I h
 refine wpAny_IfExp (aU (hc pins s U H _ I h) λd s1 ⟨H1,I1,q1⟩=>?_)
 cases d with
 | true=>exact ha pins s1 U H1 Q I1 q1
 | false=>exact hb pins s1 U H1 Q I1 q1
end
def bo (K:PySem.W.Frag) (H:Hp) (a:Addr) (xs:List V):Prop :=
 Rd H a (.lst xs) \/
  ∃(o:Obj) (its:Array Value) (n:Nat),K.lookup a=some o/\o.cls=.type "list" /\ o.dict=none/\o.data=.seq its n/\its.size<=sizeLine/\Vals xs its.toList
def bg (K:PySem.W.Frag) (H:Hp) (a:Addr) (xs:List V):Prop :=
 Rd H a (.tup xs) \/
  ∃(o:Obj) (its:Array Value) (n:Nat),K.lookup a=some o/\o.cls=.type "tuple" /\ o.data=.seq its n/\its.size<=sizeLine/\Vals xs its.toList
def xN:Value->Option V
 | .none=>some .non
 | .bool b=>some (.bl b)
 | .int i _=>some (.int i)
 | .str x _=>some (.str x)
 | .bytes b _=>some (.byt b)
 | .float b _=>some (.flt b)
 | .ref a=>some (.ref a)
 | .type n=>some (.ty n)
 | _=>none
def RelV.abs {x:V}{u:Value}(r:RelV x u):xN u=some x:=by
 cases x with
 | non=>cases r;rfl
 | bl _=>cases r;rfl
 | int _=>obtain ⟨t,rfl⟩:=r;rfl
 | str _=>obtain ⟨t,rfl⟩:=r;rfl
 | byt _=>obtain ⟨t,rfl⟩:=r;rfl
 | flt _=>obtain ⟨t,rfl⟩:=r;rfl
 | ref _=>cases r;rfl
 | ty _=>cases r;rfl
def RelV.inj {x y:V}{u:Value}(r:RelV x u) (q:RelV y u):x=y:=Option.some.inj (r.abs.symm.trans q.abs)
theorem Vals.inj:∀{xs ys:List V}{us:Af},Vals xs us->Vals ys us->xs=ys
 | _,_,_,.nil,.nil=>rfl
 | _,_,_,.cons r t,.cons r' t'=>by rw [r.inj r',Vals.inj t t']
section
variable {X:Cx}{pins:Ac}{U:St}{H:Hp}{s:Shared}{a:Addr}{xs ys:List V}
def bo.of {K:PySem.W.Frag}(h:H a=some (.lst xs)):bo K H a xs:=.inl (.inl h)
def bg.of {K:PySem.W.Frag}(h:H a=some (.tup xs)):bg K H a xs:=.inl (.inl h)
theorem Inv.list (I:Inv X pins U H s) (h:bo X.K H a xs):∃its:Af,Vals xs its/\PlainL s.heap a its.toArray/\xs.length<=sizeLine:=by
 rcases h with h|⟨o,its,n,hk,hc,hd,hs,hz,r⟩
 ·obtain ⟨z,its,n,r,e⟩:=h.ok I.hok
  exact ⟨its,r,⟨_,n,e,rfl,rfl,rfl⟩,z⟩
 ·refine ⟨its.toList,r,⟨o,n,I.kIn a o hk,hc,hd,by simpa using hs⟩,?_⟩
  have e:=r.length
  simp only [Array.length_toList] at e
  omega
def Inv.tuple (I:Inv X pins U H s) (h:bg X.K H a xs):∃its:Af,Vals xs its/\IsTup s.heap a its.toArray/\xs.length<=sizeLine:=by
 rcases h with h|⟨o,its,n,hk,hc,hs,hz,r⟩
 ·obtain ⟨z,its,r,p⟩:=h.ok I.hok
  exact ⟨its,r,p,z⟩
 ·refine ⟨its.toList,r,⟨o,I.kIn a o hk,hc,n,by simpa using hs⟩,?_⟩
  have e:=r.length
  simp only [Array.length_toList] at e
  omega
def Inv.list_inj (I:Inv X pins U H s) (h:bo X.K H a xs) (h':bo X.K H a ys):xs=ys:=by
 obtain ⟨its,r,⟨o,n,e,_,_,d⟩,_⟩:=I.list h
 obtain ⟨its',r',⟨o',n',e',_,_,d'⟩,_⟩:=I.list h'
 rw [e] at e';cases e'
 rw [d] at d'
 injection d' with d1 _
 have:its=its':=by simpa using congrArg Array.toList d1
 subst this
 exact r.inj r'
def Inv.tuple_inj (I:Inv X pins U H s) (h:bg X.K H a xs) (h':bg X.K H a ys):xs=ys:=by
 obtain ⟨its,r,⟨o,e,_,n,d⟩,_⟩:=I.tuple h
 obtain ⟨its',r',⟨o',e',_,n',d'⟩,_⟩:=I.tuple h'
 rw [e] at e';cases e'
 rw [d] at d'
 injection d' with d1 _
 have:its=its':=by simpa using congrArg Array.toList d1
 subst this
 exact r.inj r'
end
abbrev Cx.wish (X:Cx) (E:Aa):Cx:={ X with xe:=E }
abbrev Cx.nox (X:Cx):Cx:=X.wish λ_ _=>False
def Cx.Ok.wish {X:Cx}(ok:X.Ok) (E:Aa):(X.wish E).Ok :=
 ⟨ok.mod,ok.kind,ok.glob,ok.blt,ok.above,ok.inj,ok.has,ok.cab,ok.hd,ok.frames,ok.stk,ok.exf,ok.bs,ok.bsz,ok.noex,ok.exfs,ok.funs,ok.frf⟩
def Cx.Ok.unwish {X:Cx}{E:Aa}(ok:(X.wish E).Ok):X.Ok :=
 ⟨ok.mod,ok.kind,ok.glob,ok.blt,ok.above,ok.inj,ok.has,ok.cab,ok.hd,ok.frames,ok.stk,ok.exf,ok.bs,ok.bsz,ok.noex,ok.exfs,ok.funs,ok.frf⟩
section
variable {X:Cx}{pins:Ac}{U:St}{H:Hp}{s:Shared}{E:Aa}
def Inv.wish (I:Inv X pins U H s) (E:Aa):Inv (X.wish E) pins U H s:=⟨I.ok.wish E,I.os,I.bare,I.base,I.loc,I.cell,I.free,I.freeC,I.pin,I.hok,I.len⟩
def Inv.unwish (I:Inv (X.wish E) pins U H s):Inv X pins U H s:=⟨I.ok.unwish,I.os,I.bare,I.base,I.loc,I.cell,I.free,I.freeC,I.pin,I.hok,I.len⟩
def SP.unwish {D:Ends}{f:Flow}{s':Shared}(h:SP (X.wish E) pins D f s'):SP X pins D f s':=by
 cases f with
 | next=>obtain ⟨ai,H',I,q⟩:=h;exact ⟨ai,H',I.unwish,q⟩
 | brk=>obtain ⟨ai,H',I,q⟩:=h;exact ⟨ai,H',I.unwish,q⟩
 | cont=>obtain ⟨ai,H',I,q⟩:=h;exact ⟨ai,H',I.unwish,q⟩
 | ret u=>obtain ⟨v,ai,H',I,r,q⟩:=h;exact ⟨v,ai,H',I.unwish,r,q⟩
def PE.nox {e:Expr}{t:TE}(h:PE X.nox e t):PE X e t:=λpins s U H Q I hw =>
 yG (h pins s U H Q (I.wish _) hw) (λ_ _ ⟨v,H',I',r,q⟩=>⟨v,H',I'.unwish,r,q⟩) λ_ _ z=>z.elim
def PT.nox {e:Expr}{t:TT}(h:PT X.nox e t):PT X e t:=λpins s U H Q I hw =>
 yG (h pins s U H Q (I.wish _) hw) (λ_ _ ⟨H',I',q⟩=>⟨H',I'.unwish,q⟩) λ_ _ z=>z.elim
def bY.nox {st:List Stmt}{t:TS}(h:bY X.nox st t):bY X st t:=λpins s U H D I hw =>
 yG (h pins s U H D (I.wish _) hw) (λ_ _ q=>q.unwish) λ_ _ z=>z.elim
end
section
variable {X:Cx}{st:Stmt}{rest:List Stmt}{t u:TS}{e:Expr}{te:TE}{pos:Pos}
def Gu:TS:=λD U H=>D.nx U H
def Gv (t u:TS):TS:=λD U H=>t { D with nx:=u D } U H
def Gw:bY X [] Gu:=λ_ _ U H _ I h=>wpAny_execs_nil ⟨U,H,I,h⟩
def Gx (h1:PS X st t) (h2:bY X rest u):bY X (st::rest) (Gv t u):=by
 intro pins s U H D I h
 refine wpAny_execs_cons (aU (h1 pins s U H { D with nx:=u D } I h) λf s1 q=>?_)
 cases f with
 | next =>
  obtain ⟨ai,H',I',q⟩:=q
  exact h2 pins s1 ai H' D I' q
 | ret v=>exact q
 | brk=>exact q
 | cont=>exact q
def nq (h1:PS X st t):bY X [st] t:=by
 intro pins s U H D I h
 refine wpAny_execs_cons (aU (h1 pins s U H D I h) λf s1 q=>?_)
 cases f with
 | next=>exact wpAny_execs_nil q
 | ret v=>exact q
 | brk=>exact q
 | cont=>exact q
def Inv.quiet {pins:Ac}{U:St}{H:Hp}{s:Shared}(I:Inv X pins U H s):interactive X.env=false:=by simp [interactive,I.ok.kind]
def Gy (te:TE):TS:=λD U H=>te U H λ_ H1=>D.nx U H1
def Gz (he:PE X e te) (hs:swapsWith e none pos.line X.env=pure false:=by rfl):PS X (.Expr e pos) (Gy te):=by
 intro pins s U H D I h
 exact wpAny_Expr_any (aU (he pins s U H _ I h) λv s1 ⟨x,H1,I1,r1,q1⟩=>⟨U,H1,I1,q1⟩) I.quiet hs
def GA (te:TE):TS:=λD U H=>te U H D.rt
def GB (he:PE X e te):PS X (.Return (some e) pos) (GA te):=by
 intro pins s U H D I h
 exact wpAny_Return_some (aU (he pins s U H _ I h) λv s1 ⟨x,H1,I1,r1,q1⟩=>⟨x,U,H1,I1,r1,q1⟩)
def GC (c:TT) (t u:TS):TS:=λD U H=>c U H λb H1=>if b=true then t D U H1 else u D U H1
def GD {c:Expr}{a b:List Stmt}{tc:TT}(hc:PT X c tc) (ha:bY X a t) (hb:bY X b u):PS X (.If c a b pos) (GC tc t u):=by
 intro pins s U H D I h
 refine wpAny_If (aU (hc pins s U H _ I h) λd s1 ⟨H1,I1,q1⟩=>?_)
 cases d with
 | true=>exact ha pins s1 U H1 D I1 q1
 | false=>exact hb pins s1 U H1 D I1 q1
def GF:TS:=λ_ _ _=>False
def GG {ez:List Stmt}:bY X ez GF:=λ_ _ _ _ _ _ h=>h.elim
end
abbrev TG:=V->St->Hp->(St->Hp->Prop)->Prop
abbrev kh:=List V->St->Hp->(St->Hp->Prop)->Prop
def PG (X:Cx) (target:Expr) (t:TG):Prop :=
 ∀(pins:Ac) (s:Shared) (U:St) (H:Hp) (v:V) (u:Value) (Q:St->Hp->Prop),Inv X pins U H s->RelV v u->t v U H Q ->
  wpAny (model X.prog X.w) X.A (assign target X.env u) (λ_ s'=>∃ai H',Inv X pins ai H' s'/\Q ai H') X.xe s
def pQ (X:Cx) (ts:List Expr) (t:kh):Prop :=
 ∀(pins:Ac) (s:Shared) (U:St) (H:Hp) (vs:List V) (us:Af) (Q:St->Hp->Prop),Inv X pins U H s->Vals vs us->t vs U H Q ->
  wpAny (model X.prog X.w) X.A (assignInOrder ((assignEach ts X.env).map (·.2)) us) (λ_ s'=>∃ai H',Inv X pins ai H' s'/\Q ai H') X.xe s
abbrev pR:=V->V->Hp->VK->Prop
def sx (X:Cx) (op:Operator) (t:pR):Prop :=
 ∀(pins:Ac) (s:Shared) (U:St) (H:Hp) (x y:V) (v u:Value) (Q:VK),Inv X pins U H s->RelV x v->RelV y u->t x y H Q ->
  wpAny (model X.prog X.w) X.A (inplaceOp op v u) (EP X pins U Q) X.xe s
section
variable {X:Cx}{pos:Pos}
def wb (i:Nat):TG:=λv U H Q=>Q (U.set i (some v)) H
def wB {i:Nat}{x:Str}(hN:X.N.Nodup) (hi:X.N[i]?=some x) (hx:Loc X.env.scope x) (hf:X.fn x=true\/X.env.scope.names.lookup x=some .local:=by first|exact .inl rfl|exact .inr rfl|assumption):PG X (.Name x pos) (wb i):=by
 intro pins s U H v u Q I r h
 exact wpAny_assign_Name (kg I hN hi hx r (λs' I'=>⟨_,H,I',h⟩) hf)
def sy:kh:=λvs U H Q=>vs=[]/\Q U H
def nu (t:TG) (u:kh):kh:=λvs U H Q=>∃v r,vs=v::r/\t v U H λai H'=>u r ai H' Q
def sA:pQ X [] sy:=by
 intro pins s U H vs us Q I r h
 obtain ⟨e,h⟩:=h
 subst e
 cases r
 exact assignInOrder_nil ⟨U,H,I,h⟩
def l_ {e:Expr}{es:List Expr}{t:TG}{u:kh}(h1:PG X e t) (h2:pQ X es u)
  (hs:(assignEach (e::es) X.env).map (·.2)=assign e X.env::(assignEach es X.env).map (·.2):=by rfl):pQ X (e::es) (nu t u):=by
 intro pins s U H vs us Q I r h
 obtain ⟨v,vr,e1,h⟩:=h
 subst e1
 cases r with
 | cons r rr =>
  rw [hs]
  refine assignInOrder_cons (aU (h1 pins s U H _ _ _ I r h) λ_ s1 ⟨au,H1,I1,q1⟩=>?_)
  exact h2 pins s1 au H1 _ _ Q I1 rr q1
def sC (K:PySem.W.Frag) (n:Nat) (t:kh):TG:=λv U H Q=>∃a xs,v=.ref a/\bg K H a xs/\xs.length=n/\t xs U H Q
def sD {es:List Expr}{k:Nat}{t:kh}{n:Nat}(hc:X.calm=true) (h:pQ X es t)
  (hn:(assignEach es X.env).length=n:=by rfl) (bw:(assignEach es X.env).findIdx? (·.1)=none:=by rfl):PG X (.Tuple es k pos) (sC X.K n t):=by
 intro pins s U H v u Q I r hw
 obtain ⟨a,xs,e1,hq,hl,hw⟩:=hw
 subst e1
 cases r
 obtain ⟨its,rv,ht,hz⟩:=I.tuple hq
 refine assign_Tuple_tuple (I.ok.hd hc) ht (by simp [hn,<-hl,rv.length]) bw λh' hx=>?_
 have I1:Inv X pins U H { s with heap:=h' }:=I.kept (t':=s.toks) λb o e=>hx b o (yz (yf e)) e
 exact h pins _ U H xs _ Q I1 (by simpa using rv) hw
def GH (te:TE) (g:TG):TS:=λD U H=>te U H λx H1=>g x U H1 D.nx
def GI {i:Nat}{x:Str}{e:Expr}{te:TE}{pos':Pos}(hN:X.N.Nodup) (hi:X.N[i]?=some x) (hx:Loc X.env.scope x) (he:PE X e te) (hs:swapsWith e (some (.Name x pos')) pos.line X.env=pure false:=by rfl) (hf:X.fn x=true\/X.env.scope.names.lookup x=some .local:=by first|exact .inl rfl|exact .inr rfl|assumption) :
  PS X (.Assign [.Name x pos'] e pos) (GH te (wb i)):=by
 intro pins s U H D I h
 refine wpAny_Assign_Name (aU (he pins s U H _ I h) λv s1 ⟨y,H1,I1,r1,q1⟩=>?_) hs
 exact kg I1 hN hi hx r1 (λs2 I2=>⟨_,H1,I2,q1⟩) hf
def GJ (i:Nat) (te:TE) (ti:pR):TS:=λD U H=>∃x,U[i]?=some (some x)/\te U H λy H1=>ti x y H1 λz H2=>D.nx (U.set i (some z)) H2
def GK {i:Nat}{x:Str}{e:Expr}{te:TE}{op:Operator}{ti:pR}{pos':Pos}(hN:X.N.Nodup) (hi:X.N[i]?=some x) (hx:Loc X.env.scope x) (he:PE X e te) (ho:sx X op ti) (hf:X.fn x=true\/X.env.scope.names.lookup x=some .local:=by first|exact .inl rfl|exact .inr rfl|assumption) :
  PS X (.AugAssign (.Name x pos') op e pos) (GJ i te ti):=by
 intro pins s U H D I h
 obtain ⟨v,e1,h⟩:=h
 obtain ⟨m,hn,hl⟩:=I.loc
 have GL:nj X.env.scope x:=by rcases hx with k|k;exact .inl k;exact .inr (.inl k)
 obtain ⟨u,r,l⟩:=hl i x v hi e1 GL
 refine wpAny_AugAssign_Name ?_
 have go:wpAny (model X.prog X.w) X.A (eval e X.env) (λw af=>wpAny (model X.prog X.w) X.A (inplaceOp op u w) (λr aJ=>wpAny (model X.prog X.w) X.A (storeName X.env x r) (λ_=>SP X pins D .next) X.xe aJ) X.xe af) X.xe s:=by
  refine aU (he pins s U H _ I h) λw s1 ⟨y,H1,I1,r1,q1⟩=>?_
  refine aU (ho pins s1 U H1 v y u w _ I1 r r1 q1) λz s2 ⟨zv,H2,I2,r2,q2⟩=>?_
  exact kg I2 hN hi hx r2 (λs3 I3=>⟨_,H2,I3,q2⟩) hf
 rcases l with ⟨hk,hm⟩|⟨hk,c,hc,dQ⟩
 ·exact wpAny_loadName_local I.ok.kind hk hn hm go
 ·rcases hk with hk|hk
  ·exact wpAny_loadName_cell I.ok.kind hk hc dQ go
  ·rcases hx with k|k
   ·have:X.env.scope.names.lookup x=some .free:=hk
    rw [k] at this;cases this
   ·have:X.env.scope.names.lookup x=some .free:=hk
    rw [k] at this;cases this
def GN (f:Int->Int->Int):pR:=λx y H Q=>∃i j,x=.int i/\y=.int j/\Q (.int (f i j)) H
def GO:sx X .Add (GN λi j=>i+j):=by
 intro pins s U H x y v u Q I r1 r2 h
 obtain ⟨i,j,e1,e2,q⟩:=h
 subst e1;subst e2
 obtain ⟨t,rfl⟩:=r1
 obtain ⟨t',rfl⟩:=r2
 exact iadd_int ⟨.int _,H,I.tok _,⟨_,rfl⟩,q⟩
def GP (c:TT) (tb:TS):TS:=λD U H=>∃W:Nat->St->Hp->Prop,(∃m,W m U H)/\∀m U H,W m U H ->
 c U H λb H1=>if b=true then ∃N:St->Hp->Prop,(∀ai H',N ai H'->∃m',m'<m/\W m' ai H')/\tb { D with nx:=N,ct:=N,bk:=D.nx } U H1 else D.nx U H1
def GQ {c:Expr}{body:List Stmt}{tc:TT}{tb:TS}(hp:PassesOwn (model X.prog X.w) X.A X.env X.xe) (hc:PT X c tc) (hb:bY X body tb):PS X (.While c body [] pos) (GP tc tb):=by
 intro pins s U H D I h
 obtain ⟨W,⟨m0,w0⟩,turn⟩:=h
 refine wpAny_While (codeAny_whileLoop (λn s'=>∃ai H',Inv X pins ai H' s'/\W n ai H') ?_ m0 ⟨U,H,I,w0⟩)
 rintro n s1 ⟨au,H1,I1,w1⟩
 refine wpAny_passesOwn hp (aU (hc pins s1 au H1 _ I1 (turn n au H1 w1)) λb s2 ⟨H2,I2,q2⟩=>?_)
 cases b with
 | true =>
  obtain ⟨N,hN,q2⟩:=q2
  rw [zu rfl]
  refine wpAny_passesOwn hp (aU (hb pins s2 au H2 _ I2 q2) λf s3 q3=>?_)
  cases f with
  | next =>
   obtain ⟨ay,H3,I3,n3⟩:=q3
   obtain ⟨m',hm,w3⟩:=hN ay H3 n3
   exact ⟨m',hm,ay,H3,I3,w3⟩
  | cont =>
   obtain ⟨ay,H3,I3,n3⟩:=q3
   obtain ⟨m',hm,w3⟩:=hN ay H3 n3
   exact ⟨m',hm,ay,H3,I3,w3⟩
  | brk=>exact q3
  | ret v=>exact q3
 | false =>
  rw [zF Bool.false_ne_true]
  exact wpAny_execs_nil ⟨au,H2,I2,q2⟩
end
structure It where
 go:Nat->Hp->Prop
 yld:Nat->Hp->V->Hp->Prop
 stop:Nat->Hp->Prop
def cO (X:Cx) (pins:Ac) (H:Hp) (b:Addr):Prop :=
 H b=none/\b≠X.env.locals/\b∉X.fs/\(b∈X.ex\/X.s₀.heap.objs.size<=b)/\(∀x c,X.env.cells.lookup x=some c->c≠b)/\∀p∈X.pn++pins,p.1≠b
def Inv.fpOk {X:Cx}{pins:Ac}{U:St}{H H':Hp}{s:Shared}{b:Addr}(I:Inv X pins U H s) (hb:s.heap.objs.size<=b) (hn:H' b=none):cO X pins H' b:=by
 refine ⟨hn,Nat.ne_of_gt (jd I.lt hb),I.nofs hb,.inr (y6 I.sz hb),λx c e z=>?_,λp hp z=>?_⟩
 ·obtain ⟨v,q⟩:=I.cell x c e
  exact absurd (jd q.lt (by rw [z];exact hb)) (Nat.lt_irrefl _)
 ·exact absurd (jd (yf (I.pin p hp).1) (by rw [z];exact hb)) (Nat.lt_irrefl _)
structure Turn (P:Program) (w:World) (K:PySem.W.Frag) (tg:Expr) (J:It) (fp:Ae) (it:Addr) (tn:Nat->Heap->Prop):Prop where
 mem:it∈fp
 obj:∀i h,tn i h->∀b∈fp,∃o,h.get? b=some o/\∀v,o.data ≠ .cell v
 keep:∀i h h',tn i h->(∀b∈fp,∀o,h.get? b=some o->h'.get? b=some o)->tn i h'
 item:∀(X:Cx),X.prog=P->X.w=w->X.K=K->X.calm=true->∀(i:Nat) (pins:Ac) (s:Shared) (U:St) (H:Hp) (E:Aa),Inv X pins U H s->(∀b∈fp,cO X pins H b)->tn i s.heap->J.go i H ->
  wpAny (model P w) X.A (pyNext (.ref it)) (λr s1=>∃u,r=some u /\
   wpAny (model P w) X.A (letOwnedTupleGo tg (.ref it) u) (λ_ s2=>∃x H',Inv X pins U H' s2/\RelV x u/\J.yld i H x H'/\tn (i+1) s2.heap/\∀b∈fp,H' b=none) E s1) E s
 done:∀(X:Cx),X.prog=P->X.w=w->X.K=K->X.calm=true->∀(i:Nat) (pins:Ac) (s:Shared) (U:St) (H:Hp) (E:Aa),Inv X pins U H s->(∀b∈fp,cO X pins H b)->tn i s.heap->J.stop i H ->
  wpAny (model P w) X.A (pyNext (.ref it)) (λr s1=>r=none/\Inv X pins U H s1) E s
 self:∀(A:Around) (i:Nat) (s:Shared) (Q:Aa) (E:Aa),tn i s.heap->Q (.ref it) s->wpAny (model P w) A (pyIter (.ref it)) Q E s
abbrev TI:=St->Hp->(It->Hp->Prop)->Prop
def xO (X:Cx) (pins:Ac) (U:St) (tg:Expr) (R:It->Hp->Prop) (pS:Value) (s2:Shared):Prop :=
 ∃(it:Addr) (fp:Ae) (tn:Nat->Heap->Prop) (J:It) (H':Hp),pS=.ref it/\Inv X pins U H' s2/\Turn X.prog X.w X.K tg J fp it tn/\tn 0 s2.heap/\(∀b∈fp,cO X pins H' b)/\R J H'
def PI (X:Cx) (tg iter:Expr) (wi:TI):Prop :=
 ∀(pins:Ac) (s:Shared) (U:St) (H:Hp) (R:It->Hp->Prop),Inv X pins U H s->wi U H R ->
  wpAny (model X.prog X.w) X.A (eval iter X.env) (λv s1=>wpAny (model X.prog X.w) X.A (pyIter v) (xO X pins U tg R) X.xe s1) X.xe s
def pU {M:Model}{A:Around}{E:Aa}{s:Shared}{tg:Expr}{it:Addr}{u:Value}{o:Obj}{n:String}{vs:Array Value}{Q:Unit->Shared->Prop}(ho:s.heap.get? it=some o) (hc:o.cls=.type n) (hd:o.data=.fields vs)
  (hn:["enumerate", "zip", "dict_itemiterator", "dict_reverseitemiterator", "odict_iterator", "itertools.zip_longest", "itertools.pairwise"].contains n=false) (hQ:Q () s):wpAny M A (letOwnedTupleGo tg (.ref it) u) Q E s:=by
 unfold letOwnedTupleGo
 cases tg<;>first
  | exact zK hQ
  | (cases u<;>first
    | exact zK hQ
    | (refine zp (wpAny_load ho ?_)
       rw [hc,hd]
       show wpAny M A (if (["enumerate", "zip", "dict_itemiterator", "dict_reverseitemiterator", "odict_iterator", "itertools.zip_longest", "itertools.pairwise"].contains n&&vs[0]?==some (rawInt _))=true then _ else _) Q E s
       rw [zF (by intro h;rw [hn,Bool.false_and] at h;cases h)]
       exact zK hQ))
def pV (K:PySem.W.Frag) (a:Addr):It :=
 ⟨λi H=>∃xs x,bo K H a xs/\xs[i]?=some x,λi H x H'=>H'=H/\∀xs,bo K H a xs->xs[i]?=some x,λi H=>∃xs,bo K H a xs/\xs.length<=i⟩
def ma (K:PySem.W.Frag) (a:Addr):It :=
 ⟨λi H=>∃xs x,bg K H a xs/\xs[i]?=some x,λi H x H'=>H'=H/\∀xs,bg K H a xs->xs[i]?=some x,λi H=>∃xs,bg K H a xs/\xs.length<=i⟩
def nv (lo:Int) (n:Nat):It:=⟨λi _=>i<n,λi H x H'=>H'=H/\x=.int (lo+i),λi _=>n<=i⟩
theorem GR {P:Program}{w:World}{K:PySem.W.Frag}{tg:Expr}(a it:Addr):Turn P w K tg (pV K a) [it] it (λi h=>h.IsListIter it a i) where
 mem:=by simp
 obj:=λi h st b hb=>by
  have e:b=it:=by simpa using hb
  subst e
  obtain ⟨o,e,c,d⟩:=st
  exact ⟨o,e,λv z=>by rw [d] at z;cases z⟩
 keep:=λi h h' st k=>st.at λo e=>k it (by simp) o e
 item:=by
  intro X hP hw hK hc i pins s U H E I hf st hg
  subst hP hw hK
  obtain ⟨xs,x,hq,hx⟩:=hg
  obtain ⟨its,rv,p,hz⟩:=I.list hq
  obtain ⟨u,hu,ru⟩:=rv.get hx
  obtain ⟨f0,f1,f2,f3,f4,f5⟩:=hf it (by simp)
  refine wpAny_pyNext_list_item st p.isList (x:=u) (by simpa using hu) λh' bC sb=>?_
  have I1:Inv X pins U H { s with heap:=h' }:=I.turned (t':=s.toks) (λb o hb e=>(sb.2 b hb).trans e) f0 f1 f3 f4 f5
  obtain ⟨o,e,c,d⟩:=id bC
  exact ⟨u,rfl,pU (s:={ s with heap:=h' }) e c d (by decide) ⟨x,H,I1,ru,⟨rfl,λys hy=>by rw [I.list_inj hy hq];exact hx⟩,bC,λb hb=>(hf b hb).1⟩⟩
 done:=by
  intro X hP hw hK hc i pins s U H E I hf st hg
  subst hP hw hK
  obtain ⟨xs,hq,hx⟩:=hg
  obtain ⟨its,rv,p,hz⟩:=I.list hq
  obtain ⟨f0,f1,f2,f3,f4,f5⟩:=hf it (by simp)
  have hl:=rv.length
  exact wpAny_pyNext_list_end (I.ok.hd hc) st p.isList (by simp;omega) λh' eb=>⟨rfl,I.turned (t':=s.toks) (λb o hb e=>eb b o hb e) f0 f1 f3 f4 f5⟩
 self:=λ_ _ _ _ _ st h=>wpAny_pyIter_listiter st h
def GS {P:Program}{w:World}{K:PySem.W.Frag}{tg:Expr}(a it:Addr):Turn P w K tg (ma K a) [it] it (λi h=>h.IsTupleIter it a i) where
 mem:=by simp
 obj:=λi h st b hb=>by
  have e:b=it:=by simpa using hb
  subst e
  obtain ⟨o,e,c,d⟩:=st
  exact ⟨o,e,λv z=>by rw [d] at z;cases z⟩
 keep:=λi h h' st k=>st.at λo e=>k it (by simp) o e
 item:=by
  intro X hP hw hK hc i pins s U H E I hf st hg
  subst hP hw hK
  obtain ⟨xs,x,hq,hx⟩:=hg
  obtain ⟨its,rv,p,hz⟩:=I.tuple hq
  obtain ⟨u,hu,ru⟩:=rv.get hx
  obtain ⟨f0,f1,f2,f3,f4,f5⟩:=hf it (by simp)
  refine wpAny_pyNext_tuple_item st (show s.heap.IsTuple a its.toArray from p) (x:=u) (by simpa using hu) λh' bC sb=>?_
  have I1:Inv X pins U H { s with heap:=h' }:=I.turned (t':=s.toks) (λb o hb e=>(sb.2 b hb).trans e) f0 f1 f3 f4 f5
  obtain ⟨o,e,c,d⟩:=id bC
  exact ⟨u,rfl,pU (s:={ s with heap:=h' }) e c d (by decide) ⟨x,H,I1,ru,⟨rfl,λys hy=>by rw [I.tuple_inj hy hq];exact hx⟩,bC,λb hb=>(hf b hb).1⟩⟩
 done:=by
  intro X hP hw hK hc i pins s U H E I hf st hg
  subst hP hw hK
  obtain ⟨xs,hq,hx⟩:=hg
  obtain ⟨its,rv,p,hz⟩:=I.tuple hq
  obtain ⟨f0,f1,f2,f3,f4,f5⟩:=hf it (by simp)
  have hl:=rv.length
  exact wpAny_pyNext_tuple_end (I.ok.hd hc) st (show s.heap.IsTuple a its.toArray from p) (by simp;omega) λh' eb=>⟨rfl,I.turned (t':=s.toks) (λb o hb e=>eb b o hb e) f0 f1 f3 f4 f5⟩
 self:=λ_ _ _ _ _ st h=>wpAny_pyIter_tupleiter st h
theorem GU {P:Program}{w:World}{K:PySem.W.Frag}{tg:Expr}(it:Addr) (lo:Int) (n:Nat):Turn P w K tg (nv lo n) [it] it (λi h=>IsRangeIter h it (lo+(i:Nat)*1) ((n:Int)-(i:Nat)) 1) where
 mem:=by simp
 obj:=λi h st b hb=>by
  have e:b=it:=by simpa using hb
  subst e
  exact ⟨_,st,λv z=>by
   have z':Data.fields _=Data.cell v:=z
   cases z'⟩
 keep:=λi h h' st k=>k it (by simp) _ st
 item:=by
  intro X hP hw hK hc i pins s U H E I hf st hg
  subst hP hw hK
  obtain ⟨f0,f1,f2,f3,f4,f5⟩:=hf it (by simp)
  have W:=Walks.range (prog:=X.prog) (w:=X.w) (I.ok.hd hc) it lo 1 n
  refine W.item i s _ _ hg st λv h' tk hv bC kk=>?_
  obtain ⟨t,rfl⟩:=hv
  have I1:Inv X pins U H { s with heap:=h',toks:=tk }:=I.turned (λb o hb e=>kk b o (by simpa using hb) e) f0 f1 f3 f4 f5
  refine ⟨_,rfl,pU (s:={ s with heap:=h',toks:=tk }) (n := "range_iterator") bC rfl rfl (by decide) ⟨.int (lo+i),H,I1,⟨t,?_⟩,⟨rfl,rfl⟩,bC,λb hb=>(hf b hb).1⟩⟩
  rw [Int.mul_one]
 done:=by
  intro X hP hw hK hc i pins s U H E I hf st hg
  subst hP hw hK
  obtain ⟨f0,f1,f2,f3,f4,f5⟩:=hf it (by simp)
  exact wpAny_pyNext_range_end (I.ok.hd hc) st (by have:n<=i:=hg;omega) λh' eb=>⟨rfl,I.turned (t':=s.toks) (λb o hb e=>eb b o hb e) f0 f1 f3 f4 f5⟩
 self:=λ_ _ _ _ _ st h=>wpAny_pyIter_rangeiter st h
section
variable {X:Cx}{tg:Expr}
theorem GV {pins:Ac}{U:St}{H:Hp}{s:Shared}{R:It->Hp->Prop}{E:Aa}{lo hi:Int}{t u v:Tok}{tk:Nat}(I:Inv X pins U H s) (h1 : -(2 ^ 62)<=lo) (h2:lo<2 ^ 62) (h3 : -(2 ^ 62)<=hi) (h4:hi<2 ^ 62)
  (q:R (nv lo (hi-lo).toNat) H):wpAny (model X.prog X.w) X.A (pyIter (.ref s.heap.objs.size)) (xO X pins U tg R) E { s with heap:=s.heap.push { cls:=.type "range", data:=.fields #[.int lo t,.int hi u,.int 1 v] },toks:=tk }:=by
 refine wpAny_pyIter_range (IsRange.new ..) (small_one h1 h2 h3 h4) ?_
 have I1:Inv X pins U H { s with heap:=s.heap.push { cls:=.type "range", data:=.fields #[.int lo t,.int hi u,.int 1 v] },toks:=tk }:=I.kept λb o e=>zZ _ e
 refine ⟨(s.heap.push { cls:=.type "range", data:=.fields #[.int lo t,.int hi u,.int 1 v] }).objs.size,[(s.heap.push { cls:=.type "range", data:=.fields #[.int lo t,.int hi u,.int 1 v] }).objs.size],_,_,H,rfl,
  I1.kept (t':=tk) λb o e=>zZ _ e,GU _ lo (hi-lo).toNat,?_,λb hb=>?_,q⟩
 ·have e1:lo+((0:Nat):Int)*1=lo:=by simp
  have e2:(((hi-lo).toNat:Nat):Int)-((0:Nat):Int)=Builtin.Range.rangeSize lo hi 1:=by rw [rangeSize_one];split<;>omega
  show IsRangeIter _ _ (lo+((0:Nat):Int)*1) ((((hi-lo).toNat:Nat):Int)-((0:Nat):Int)) 1
  rw [e1,e2]
  exact yP _ rfl
 ·have e:b=(s.heap.push { cls:=.type "range", data:=.fields #[.int lo t,.int hi u,.int 1 v] }).objs.size:=by simpa using hb
  subst e
  exact I1.fpOk (yd _) (I1.hok.fresh (yd _))
def dR (ta:TA):TI:=λU H R=>ta U H λvs H1=>∃j:Int,vs=[.int j] /\ -(2 ^ 62)<=j/\j<2 ^ 62/\R (nv 0 j.toNat) H1
def sE (ta:TA):TI:=λU H R=>ta U H λvs H1=>∃i j:Int,vs=[.int i,.int j]/\(-(2 ^ 62)<=i/\i<2 ^ 62 /\ -(2 ^ 62)<=j/\j<2 ^ 62)/\R (nv i (j-i).toNat) H1
theorem GW {a:Expr} {ta:TA} {p pos:Pos} (hg:Gl X "range") (hm:X.mg "range" = none) (ha:PA X [a] ta) (hs:starEach [a] X.env=[(false,eval a X.env)]:=by rfl):PI X tg (.Call (.Name "range" p) [a] [] pos) (dR ta):=by
 intro pins s U H R I h
 refine Call_ (iu I hg hm boot_range (PyProof.Rows.callWith_type1 (aU (ha pos pins s U H _ I h) λus s1 ⟨vs,H1,I1,r1,q1⟩=>?_) hs rfl))
 obtain ⟨j,e,q1,q2,q⟩:=q1
 subst e
 cases r1 with
 | cons r rr =>
  cases rr
  obtain ⟨t,rfl⟩:=r
  exact call_range_1 (GV I1 (by omega) (by omega) q1 q2 (by simpa using q))
def GX (wi:TI) (g:TG) (tb:TS):TS:=λD U H=>wi U H λJ H1=>∃W:Nat->Nat->St->Hp->Prop,(∃m,W 0 m U H1)/\∀i m U H,W i m U H ->
 (J.stop i H/\D.nx U H)\/(J.go i H/\∃N:St->Hp->Prop,(∀ai H',N ai H'->∃m',m'<m/\W (i+1) m' ai H')/\∀x H',J.yld i H x H'->g x U H' λaD H2=>tb { D with nx:=N,ct:=N,bk:=D.nx } aD H2)
def fW (fp:Ae) (h:Heap):Ac:=fp.filterMap λb=>(h.get? b).map λo=>(b,o)
def nA {fp:Ae}{h:Heap}{b:Addr}{o:Obj}(hb:b∈fp) (e:h.get? b=some o):(b,o)∈fW fp h:=List.mem_filterMap.mpr ⟨b,hb,by rw [e];rfl⟩
def GY {fp:Ae}{h:Heap}{p:Addr×Obj}(hp:p∈fW fp h):p.1∈fp/\h.get? p.1=some p.2:=by
 obtain ⟨b,hb,e⟩:=List.mem_filterMap.mp hp
 cases q:h.get? b with
 | none=>rw [q] at e;cases e
 | some o =>
  rw [q] at e
  have e':(b,o)=p:=Option.some.inj e
  subst e'
  exact ⟨hb,q⟩
def Inv.pinned {pins:Ac}{U:St}{H:Hp}{s:Shared}{fp:Ae}(I:Inv X pins U H s) (hf:∀b∈fp,cO X pins H b) (ho:∀b∈fp,∃o,s.heap.get? b=some o/\∀v,o.data ≠ .cell v):Inv X (pins++fW fp s.heap) U H s :=
 I.pins_of λp hp=>(m8.mp hp).elim (λz=>I.pin p (y0 _ z)) λz=>by
  obtain ⟨hb,e⟩:=GY z
  obtain ⟨f0,f1,f2,_⟩:=hf p.1 hb
  obtain ⟨o,e',d⟩:=ho p.1 hb
  rw [e] at e';cases e'
  exact ⟨e,f0,f1,f2,d⟩
def Inv.unpinned {pins pl:Ac}{U:St}{H:Hp}{s:Shared}(I:Inv X (pins++pl) U H s):Inv X pins U H s:=I.pins_of λp hp=>I.pin p (y0 _ (lV _ hp))
def xP {iter:Expr}{body:List Stmt}{wi:TI}{g:TG}{tb:TS}{pos:Pos}(hp:PassesOwn (model X.prog X.w) X.A X.env X.xe) (hc:X.calm=true) (hi:PI X tg iter wi) (hg:PG X tg g) (hb:bY X body tb)
  (hs:∀x,foldedSetIterable iter X.env x=pure x:=by intro _;rfl):PS X (.For tg iter body [] pos) (GX wi g tb):=by
 intro pins s U H D I h
 refine wpAny_For (aU (hi pins s U H _ I h) λv s1 h1=>aU h1 λpS s2 h2=>?_) hs
 obtain ⟨it,fp,tn,J,H2,e,I2,T,av,f2,W,⟨m0,w0⟩,turn⟩:=h2
 subst e
 have stat:∀{H':Hp},(∀b∈fp,H' b=none)->∀b∈fp,cO X pins H' b:=λhn b hb=>⟨hn b hb,(f2 b hb).2⟩
 refine codeAny_forLoop_any (λn s'=>∃i ai H',Inv X pins ai H' s'/\tn i s'.heap/\(∀b∈fp,H' b=none)/\W i n ai H') ?_ m0 ⟨0,U,H2,I2,av,λb hb=>(f2 b hb).1,w0⟩
 rintro n s3 ⟨i,ay,H3,I3,a_,iw,w3⟩
 rcases turn i n ay H3 w3 with ⟨stop,qn⟩|⟨go,N,hN,step⟩
 ·refine wpAny_passesOwn hp (aU (T.done X rfl rfl rfl hc i pins s3 ay H3 X.xe I3 (stat iw) a_ stop) λr s4 ⟨hr,I4⟩=>?_)
  subst hr
  exact wpAny_execs_nil ⟨ay,H3,I4,qn⟩
 ·refine wpAny_passesOwn hp (aU (T.item X rfl rfl rfl hc i pins s3 ay H3 X.xe I3 (stat iw) a_ go) λr s4 ⟨u,hr,h4⟩=>?_)
  subst hr
  refine wpAny_passesOwn hp (aU h4 λ_ s5 ⟨x,H5,I5,r5,y5,dq,nB⟩=>?_)
  have nC:=I5.pinned (stat nB) (T.obj _ _ dq)
  refine wpAny_passesOwn hp (aU (hg _ s5 ay H5 x u _ nC r5 (step x H5 y5)) λ_ s6 ⟨aG,H6,I6,q6⟩=>?_)
  refine wpAny_passesOwn hp (aU (hb _ s6 aG H6 _ I6 q6) λf s7 q7=>?_)
  have again:∀{ax:St} {H7:Hp},Inv X (pins++fW fp s5.heap) ax H7 s7->N ax H7->∃m,m<n/\∃i ai H',Inv X pins ai H' s7/\tn i s7.heap/\(∀b∈fp,H' b=none)/\W i m ai H':=λ{ax H7} I7 n7=>by
   obtain ⟨m',hm,w7⟩:=hN ax H7 n7
   refine ⟨m',hm,i+1,ax,H7,I7.unpinned,T.keep _ _ _ dq λb hb o e=>(I7.pin (b,o) (y0 _ (y0 _ (nA hb e)))).1,λb hb=>?_,w7⟩
   obtain ⟨o,e,d⟩:=T.obj _ _ dq b hb
   exact (I7.pin (b,o) (y0 _ (y0 _ (nA hb e)))).2.1
  cases f with
  | next=>obtain ⟨ax,H7,I7,n7⟩:=q7;exact again I7 n7
  | cont=>obtain ⟨ax,H7,I7,n7⟩:=q7;exact again I7 n7
  | brk=>obtain ⟨ax,H7,I7,q7⟩:=q7;exact ⟨ax,H7,I7.unpinned,q7⟩
  | ret v=>obtain ⟨x7,ax,H7,I7,r7,q7⟩:=q7;exact ⟨x7,ax,H7,I7.unpinned,r7,q7⟩
end
theorem f7 {K:PySem.W.Frag}{a:Addr}{xs:List V}{g:TG}{tb:TS}{D:Ends}{U:St}{H:Hp}(Pv:Nat->St->Hp->Prop) (h0:Pv 0 U H) (hl:∀i U H,i<=xs.length->Pv i U H->bg K H a xs)
  (hs:∀i x U H,xs[i]?=some x->Pv i U H->g x U H λaD H2=>tb { D with nx:=Pv (i+1),ct:=Pv (i+1),bk:=D.nx } aD H2) (hd:∀U H,Pv xs.length U H->D.nx U H) :
  ∃W:Nat->Nat->St->Hp->Prop,(∃m,W 0 m U H)/\∀i m U H,W i m U H ->
   ((ma K a).stop i H/\D.nx U H)\/((ma K a).go i H/\∃N:St->Hp->Prop,(∀ai H',N ai H'->∃m',m'<m/\W (i+1) m' ai H')/\∀x H',(ma K a).yld i H x H'->g x U H' λaD H2=>tb { D with nx:=N,ct:=N,bk:=D.nx } aD H2):=by
 refine ⟨λi m U H=>m=xs.length-i/\i<=xs.length/\Pv i U H,⟨xs.length,by simp,jc _,h0⟩,?_⟩
 rintro i m U H ⟨rfl,hi,p⟩
 have q:=hl i U H hi p
 by_cases bu:i<xs.length
 ·refine .inr ⟨⟨xs,xs[i],q,by simp [bu]⟩,Pv (i+1),λai H' p'=>⟨xs.length-(i+1),by omega,rfl,bu,p'⟩,λx H' y=>?_⟩
  obtain ⟨e,y⟩:=y
  subst e
  exact hs i x U _ (y xs q) p
 ·have e:i=xs.length:=by omega
  subst e
  exact .inl ⟨⟨xs,q,yd _⟩,hd U H p⟩
abbrev R2:=V->V->Hp->VK->Prop
def ba (X:Cx) (f:Value->Value->Sem Value) (r:R2):Prop :=
 ∀(pins:Ac) (s:Shared) (U:St) (H:Hp) (x y:V) (v u:Value) (Q:VK),Inv X pins U H s->RelV x v->RelV y u->r x y H Q ->
  wpAny (model X.prog X.w) X.A (f v u) (EP X pins U Q) X.xe s
def nE (X:Cx) (f:Value->Sem Value) (r:V->Hp->VK->Prop):Prop :=
 ∀(pins:Ac) (s:Shared) (U:St) (H:Hp) (x:V) (v:Value) (Q:VK),Inv X pins U H s->RelV x v->r x H Q ->
  wpAny (model X.prog X.w) X.A (f v) (EP X pins U Q) X.xe s
def bQ (X:Cx) (f:Value) (r:List V->Hp->VK->Prop):Prop :=
 ∀(pins:Ac) (s:Shared) (U:St) (H:Hp) (xs:List V) (us:Af) (Q:VK),Inv X pins U H s->Vals xs us->r xs H Q ->
  wpAny (model X.prog X.w) X.A (call f us) (EP X pins U Q) X.xe s
def nF (r:R2) (ta tb:TE):TE:=λU H Q=>ta U H λx H1=>tb U H1 λy H2=>r x y H2 Q
def GZ (r:V->Hp->VK->Prop) (ta:TE):TE:=λU H Q=>ta U H λx H1=>r x H1 Q
def rI (C:Int->Int->Prop) (g:Int->Int->V):R2:=λx y H Q=>∃i j,x=.int i/\y=.int j/\C i j/\Q (g i j) H
def wo (g:Int->Int->V):R2:=λx y H Q=>∃i j,x=.int i/\y=.int j/\Q (g i j) H
def rU (g:Int->V):V->Hp->VK->Prop:=λx H Q=>∃i,x=.int i/\Q (g i) H
section
variable {X:Cx}{a b c:Expr}{ta tb tc:TE}{pos:Pos}
def nG (ha:PE X a ta) (hb:PE X b tb) {pins:Ac}{s:Shared}{U:St}{H:Hp}{R:V->V->Hp->Prop}(I:Inv X pins U H s)
  (h:ta U H λx H1=>tb U H1 λy H2=>R x y H2) {Q:Aa} {f:Value->Value->Sem Value}
  (hf:∀v u s2 x y H2,Inv X pins U H2 s2->RelV x v->RelV y u->R x y H2->wpAny (model X.prog X.w) X.A (f v u) Q X.xe s2) :
  wpAny (model X.prog X.w) X.A (eval a X.env) (λv ak=>wpAny (model X.prog X.w) X.A (eval b X.env) (λu af=>wpAny (model X.prog X.w) X.A (f v u) Q X.xe af) X.xe ak) X.xe s:=by
 refine aU (ha pins s U H _ I h) λv s1 ⟨x,H1,I1,r1,q1⟩=>?_
 refine aU (hb pins s1 U H1 _ I1 q1) λu s2 ⟨y,H2,I2,r2,q2⟩=>?_
 exact hf v u s2 x y H2 I2 r1 r2 q2
def G7 {op:Operator}{r:R2}(ho:ba X (binaryOp op) r) (ha:PE X a ta) (hb:PE X b tb):PE X (.BinOp a op b pos) (nF r ta tb):=by
 intro pins s U H Q I h
 exact wpAny_BinOp (nG ha hb I h λv u s2 x y H2 I2 rx ry q=>ho pins s2 U H2 x y v u Q I2 rx ry q)
def G8 {op:UnaryOp}{r:V->Hp->VK->Prop}(ho:nE X (unaryOp op) r) (ha:PE X a ta):PE X (.UnaryOp op a pos) (GZ r ta):=by
 intro pins s U H Q I h
 exact UnaryOp_ (aU (ha pins s U H _ I h) λv s1 ⟨x,H1,I1,r1,q1⟩=>ho pins s1 U H1 x v Q I1 r1 q1)
def opI {f:Value->Value->Sem Value}{C:Int->Int->Prop}{g:Int->Int->Int}
  (rule:∀(i j:Int) (t u:Tok) (s:Shared) (Q:Aa) (E:Aa),C i j->Q (.int (g i j) s.toks) { s with toks:=s.toks+1 }->wpAny (model X.prog X.w) X.A (f (.int i t) (.int j u)) Q E s) :
  ba X f (rI C λi j=>.int (g i j)):=by
 intro pins s U H x y v u Q I rx ry h
 obtain ⟨i,j,rfl,rfl,hc,q⟩:=h
 obtain ⟨t,rfl⟩:=rx
 obtain ⟨t',rfl⟩:=ry
 exact rule i j t t' s _ _ hc ⟨.int (g i j),H,I.tok _,⟨_,rfl⟩,q⟩
def pW {f:Value->Value->Sem Value}{g:Int->Int->Int}
  (rule:∀(i j:Int) (t u:Tok) (s:Shared) (Q:Aa) (E:Aa),Q (.int (g i j) s.toks) { s with toks:=s.toks+1 }->wpAny (model X.prog X.w) X.A (f (.int i t) (.int j u)) Q E s) :
  ba X f (wo λi j=>.int (g i j)):=by
 intro pins s U H x y v u Q I rx ry h
 obtain ⟨i,j,rfl,rfl,q⟩:=h
 obtain ⟨t,rfl⟩:=rx
 obtain ⟨t',rfl⟩:=ry
 exact rule i j t t' s _ _ ⟨.int (g i j),H,I.tok _,⟨_,rfl⟩,q⟩
def sF {f:Value->Value->Sem Value}{g:Int->Int->Bool}
  (rule:∀(i j:Int) (t u:Tok) (s:Shared) (Q:Aa) (E:Aa),Q (.bool (g i j)) s->wpAny (model X.prog X.w) X.A (f (.int i t) (.int j u)) Q E s) :
  ba X f (wo λi j=>.bl (g i j)):=by
 intro pins s U H x y v u Q I rx ry h
 obtain ⟨i,j,rfl,rfl,q⟩:=h
 obtain ⟨t,rfl⟩:=rx
 obtain ⟨t',rfl⟩:=ry
 exact rule i j t t' s _ _ ⟨.bl (g i j),H,I,rfl,q⟩
def rT (i j:Int):Prop:=0<=j/\j<=1000000/\i.natAbs<2 ^ 64
def lG (i j:Int):Prop:=(-(2 ^ 64)<i/\i<2 ^ 64)\/(-(2 ^ 64)<j/\j<2 ^ 64)
def lG.ok {i j:Int}(h:lG i j):IntMulOk i j:=by
 rcases h with ⟨h1,h2⟩|⟨h1,h2⟩
 ·exact .of_left (intBits_le_64 h1 h2)
 ·exact .of_right (intBits_le_64 h1 h2)
def G9 (k:Nat):(0:Int)<=2 ^ k:=by
 rw [two_pow_cast]
 exact Int.natCast_nonneg _
def G_:ba X (binaryOp .Add) (wo λi j=>.int (i+j)):=pW λ_ _ _ _ _ _ _ q=>add_int q
def Ha:ba X (binaryOp .Sub) (wo λi j=>.int (i-j)):=pW λ_ _ _ _ _ _ _ q=>sub_int q
def Hb:ba X (binaryOp .Mult) (rI lG λi j=>.int (i*j)):=opI λ_ _ _ _ _ _ _ hc q=>mul_int q hc.ok
def Hc:ba X (binaryOp .Mod) (rI (λ_ j=>j≠0) λi j=>.int (i.fmod j)):=opI λ_ _ _ _ _ _ _ hc q=>mod_int' hc q
def Hd:ba X (binaryOp .Pow) (rI rT λi j=>.int (i ^ j.toNat)):=opI λ_ _ _ _ _ _ _ hc q=>pow_int_small hc.1 hc.2.1 hc.2.2 q
def He:ba X (binaryOp .LShift) (rI rT λi j=>.int (i*2 ^ j.toNat)):=opI λ_ _ _ _ _ _ _ hc q=>lshift_int_small hc.1 hc.2.1 hc.2.2 q
def Hf:ba X (binaryOp .RShift) (rI (λ_ j=>0<=j) λi j=>.int (i/2 ^ j.toNat)):=opI λi j _ _ _ _ _ hc q =>
 rshift_int hc (by rw [Int.fdiv_eq_ediv_of_nonneg i (G9 _)];exact q)
def Hg:ba X (binaryOp .BitAnd) (wo λi j=>.int (Builtin.bitAnd i j)):=pW λ_ _ _ _ _ _ _ q=>and_int q
def Hh:ba X (binaryOp .BitOr) (wo λi j=>.int (Builtin.bitOr i j)):=pW λ_ _ _ _ _ _ _ q=>or_int q
def Hi {f:Value->Sem Value}{g:Int->Int}
  (rule:∀(i:Int) (t:Tok) (s:Shared) (Q:Aa) (E:Aa),Q (.int (g i) s.toks) { s with toks:=s.toks+1 }->wpAny (model X.prog X.w) X.A (f (.int i t)) Q E s) :
  nE X f (rU λi=>.int (g i)):=by
 intro pins s U H x v Q I rx h
 obtain ⟨i,rfl,q⟩:=h
 obtain ⟨t,rfl⟩:=rx
 exact rule i t s _ _ ⟨.int (g i),H,I.tok _,⟨_,rfl⟩,q⟩
def Hj:nE X (unaryOp .USub) (rU λi=>.int (-i)):=Hi λ_ _ _ _ _ q=>neg_int q
def xQ {pins:Ac}{U:St}{H:Hp}{s:Shared}{Q:VK}{k k':Bool}(I:Inv X pins U H s) (q:Q (.bl k) H) (e:k=k'):EP X pins U Q (.bool k') s:=by
 subst e
 exact ⟨.bl k,H,I,rfl,q⟩
def Hk:ba X (compareOp .Lt) (wo λi j=>.bl (decide (i<j))):=sF λ_ _ _ _ _ _ _ q=>lt_int q
def Hl:ba X (compareOp .LtE) (wo λi j=>.bl (decide (i<=j))):=sF λ_ _ _ _ _ _ _ q=>le_int q
def Hm:ba X (compareOp .Gt) (wo λi j=>.bl (decide (j<i))):=sF λ_ _ _ _ _ _ _ q=>gt_int q
def Hn:ba X (compareOp .In) (λx y H Q=>∃i j,x=.str i/\y=.str j/\Q (.bl (!(Builtin.Str.occurrences j i 0 j.length 1).isEmpty)) H):=by
 intro pins s U H x y v u Q I rx ry h
 obtain ⟨i,j,rfl,rfl,q⟩:=h
 obtain ⟨t,rfl⟩:=rx
 obtain ⟨t',rfl⟩:=ry
 exact in_str (xQ I q rfl)
def Ho:ba X (compareOp .IsNot) (λx y H Q=>y=.non/\Q (.bl (!decide (x=.non))) H):=by
 intro pins s U H x y v u Q I rx ry h
 obtain ⟨rfl,q⟩:=h
 cases ry
 refine isnot_none_gen (xQ I q ?_)
 cases x<;>first
  | (cases rx;rfl)
  | (obtain ⟨t,rfl⟩:=rx;rfl)
def ba.or {f:Value->Value->Sem Value}{r r':R2}(h:ba X f r) (h':ba X f r'):ba X f (λx y H Q=>r x y H Q\/r' x y H Q):=by
 intro pins s U H x y v u Q I rx ry q
 rcases q with q|q
 ·exact h pins s U H x y v u Q I rx ry q
 ·exact h' pins s U H x y v u Q I rx ry q
def lH (b:Expr) {op:CmpOp}(h:op ≠ .In:=by decide) (h2:op ≠ .NotIn:=by decide):behindInMarks op b=false:=by
 have e1:(op==CmpOp.In)=false:=by cases op<;>first|rfl|exact absurd rfl h
 have e2:(op==CmpOp.NotIn)=false:=by cases op<;>first|rfl|exact absurd rfl h2
 cases b<;>simp [behindInMarks,e1,e2]
def Hq {op:CmpOp}{r:R2}(ho:ba X (compareOp op) r) (ha:PE X a ta) (hb:PE X b tb) (hm:behindInMarks op b=false):PE X (.Compare a [op] [b] pos) (nF r ta tb):=by
 intro pins s U H Q I h
 exact wpAny_Compare1 (nG ha hb I h λv u s2 x y H2 I2 rx ry q=>ho pins s2 U H2 x y v u Q I2 rx ry q) hm
def xR (t:TE):TT:=λU H Q=>t U H λx H'=>∃k,x=.bl k/\Q k H'
def xS {op:CmpOp}{r:R2}(ho:ba X (compareOp op) r) (ha:PE X a ta) (hb:PE X b tb) (hm:behindInMarks op b=false):PT X (.Compare a [op] [b] pos) (xR (nF r ta tb)):=by
 intro pins s U H Q I h
 refine wpAny_isTrue_Compare1 (aU (ha pins s U H _ I h) λv s1 ⟨x,H1,I1,r1,q1⟩=>aU (hb pins s1 U H1 _ I1 q1) λu s2 ⟨y,H2,I2,r2,q2⟩ =>
  aU (ho pins s2 U H2 x y v u _ I2 r1 r2 q2) λc s3 ⟨z,H3,I3,r3,k,e,q3⟩=>?_) hm
 subst e
 cases r3
 exact wx ⟨H3,I3,q3⟩
def sG (r r':R2) (ta tb tc:TE):TE:=λU H Q=>ta U H λx H1=>tb U H1 λy H2=>r x y H2 λz H3=>∃k,z=.bl k /\
 (if k=true then tc U H3 λw' H4=>r' y w' H4 Q else Q (.bl false) H3)
def Hr {op cv:CmpOp}{r r':R2}(ho:ba X (compareOp op) r) (ho':ba X (compareOp cv) r') (ha:PE X a ta) (hb:PE X b tb) (hc:PE X c tc)
  (hm:lastMarks [op,cv] [b,c]=false:=by with_unfolding_all rfl):PE X (.Compare a [op,cv] [b,c] pos) (sG r r' ta tb tc):=by
 intro pins s U H Q I h
 refine Compare_chain (aU (ha pins s U H _ I h) λv s1 ⟨x,H1,I1,r1,q1⟩=>chain_link (aU (hb pins s1 U H1 _ I1 q1) λu s2 ⟨y,H2,I2,r2,q2⟩ =>
  aU (ho pins s2 U H2 x y v u _ I2 r1 r2 q2) λd s3 ⟨z,H3,I3,r3,k,e,q3⟩=>?_)) hm
 subst e
 cases r3
 refine wx ?_
 cases k with
 | false=>exact ite_ff ⟨.bl false,H3,I3,rfl,q3⟩
 | true=>exact ite_tt (chain_last (aU (hc pins s3 U H3 _ I3 q3) λw' s4 ⟨z',H4,I4,r4,q4⟩=>ho' pins s4 U H4 y z' u w' Q I4 r2 r4 q4))
def Hs {op cv:CmpOp}{r r':R2}(ho:ba X (compareOp op) r) (ho':ba X (compareOp cv) r') (ha:PE X a ta) (hb:PE X b tb) (hc:PE X c tc)
  (hm:lastMarks [op,cv] [b,c]=false:=by with_unfolding_all rfl):PT X (.Compare a [op,cv] [b,c] pos) (xR (sG r r' ta tb tc)):=by
 intro pins s U H Q I h
 refine isTrue_chain (aU (ha pins s U H _ I h) λv s1 ⟨x,H1,I1,r1,q1⟩=>test_link (aU (hb pins s1 U H1 _ I1 q1) λu s2 ⟨y,H2,I2,r2,q2⟩ =>
  aU (ho pins s2 U H2 x y v u _ I2 r1 r2 q2) λd s3 ⟨z,H3,I3,r3,k,e,q3⟩=>?_)) hm
 subst e
 cases r3
 refine wx ?_
 cases k with
 | false =>
  obtain ⟨k',e',q'⟩:=q3
  cases e'
  exact ite_ff ⟨H3,I3,q'⟩
 | true =>
  refine ite_tt (test_last (aU (hc pins s3 U H3 _ I3 q3) λw' s4 ⟨z',H4,I4,r4,q4⟩=>aU (ho' pins s4 U H4 y z' u w' _ I4 r2 r4 q4) λd' s5 ⟨z2,H5,I5,r5,k2,e2,q5⟩=>?_))
  subst e2
  cases r5
  exact wx ⟨H5,I5,q5⟩
def pX:(sizeLine:Nat)<2 ^ 63:=by rw [sizeLine_eq];decide
def Ht:ba X (binaryOp .Add) (λx y H Q=>∃i j,x=.str i/\y=.str j/\i.length+j.length<=sizeLine/\Q (.str (i++j)) H):=by
 intro pins s U H x y v u Q I rx ry h
 obtain ⟨i,j,rfl,rfl,hz,q⟩:=h
 obtain ⟨t,rfl⟩:=rx
 obtain ⟨t',rfl⟩:=ry
 exact add_str (λt' tk=>⟨.str (i++j),H,I.tok _,⟨_,rfl⟩,q⟩) hz
def iA {x:V}{us:Af}(r:Vals [x] us):∃u,us=[u]/\RelV x u:=by
 cases r with
 | cons r1 r2=>cases r2;exact ⟨_,rfl,r1⟩
def xT {x y:V}{us:Af}(r:Vals [x,y] us):∃u w',us=[u,w']/\RelV x u/\RelV y w':=by
 cases r with
 | cons r1 r2 =>
  cases r2 with
  | cons r3 r4=>cases r4;exact ⟨_,_,rfl,r1,r3⟩
def Hu:bQ X (.type "str") (λxs H Q=>∃i,xs=[.int i]/\i.natAbs.log2<1920/\Q (.str (toString i)) H):=by
 intro pins s U H xs us Q I r h
 obtain ⟨i,rfl,hz,q⟩:=h
 obtain ⟨u,rfl,t,rfl⟩:=iA r
 exact PySem.P.str_of_int hz ⟨.str _,H,I.tok _,⟨_,rfl⟩,q⟩
def xU (K:PySem.W.Frag) (x:V) (H:Hp) (n:Nat):Prop :=
 match x with
 | .str y=>y.length<=sizeLine/\n=y.length
 | .byt y=>y.size<=sizeLine/\n=y.size
 | .ref p=>(∃xs,bo K H p xs/\n=xs.length)\/∃xs,bg K H p xs/\n=xs.length
 | _=>False
theorem Hv:bQ X (.builtin "len") (λxs H Q=>∃x n,xs=[x]/\xU X.K x H n/\Q (.int n) H):=by
 intro pins s U H xs us Q I r h
 obtain ⟨x,n,rfl,e,q⟩:=h
 obtain ⟨u,rfl,rx⟩:=iA r
 have hl:=pX
 have hs:sizeLine=16777216:=sizeLine_eq
 cases x with
 | str y =>
  obtain ⟨t,rfl⟩:=rx
  obtain ⟨hy,e'⟩:y.length<=sizeLine/\n=y.length:=e
  subst e'
  exact len_str (by omega) ⟨.int _,H,I.tok _,⟨_,rfl⟩,q⟩
 | byt y =>
  obtain ⟨t,rfl⟩:=rx
  obtain ⟨hy,e'⟩:y.size<=sizeLine/\n=y.size:=e
  subst e'
  exact PySem.W.len_bytes (by omega) ⟨.int _,H,I.tok _,⟨_,rfl⟩,q⟩
 | ref p =>
  cases rx
  have e':(∃xs,bo X.K H p xs/\n=xs.length)\/∃xs,bg X.K H p xs/\n=xs.length:=e
  rcases e' with ⟨xs,hx,e'⟩|⟨xs,hx,e'⟩
  ·subst e'
   obtain ⟨its,r',pl,hz⟩:=I.list hx
   have hlen:=r'.length
   exact Calls.call_len_list pl.isList (by simp only [yV];omega) ⟨.int xs.length,H,I.tok _,⟨_,by simp only [yV];rw [hlen]⟩,q⟩
  ·subst e'
   obtain ⟨its,r',pl,hz⟩:=I.tuple hx
   have hlen:=r'.length
   exact len_tuple pl (by simp only [yV];omega) ⟨.int xs.length,H,I.tok _,⟨_,by simp only [yV];rw [hlen]⟩,q⟩
 | _=>exact (show False from e).elim
end
structure f9 (h:Heap) (x dx C:Addr) (mA:Ab):Prop where
 obj:h.get? x=some (PySem.W.instObj C dx)
 ns:h.Ns1 dx mA
 ne:dx≠x
def xV {h:Heap}{dx:Addr}{mA:Ab}(n:h.Ns1 dx mA):∃od,h.get? dx=some od/\∀name,PySem.W.lookIn name od=some (mA name):=by
 obtain ⟨o,es,ep,ho,hd,hk,_,hm⟩:=n
 refine ⟨o,ho,λname=>?_⟩
 have e:=hm name
 unfold nsFind findBy at e
 rw [<-Array.find?_toList] at e
 unfold PySem.W.lookIn
 rw [hd]
 dsimp only
 split
 ·rename_i y q
  rw [q] at e
  exact congrArg some e
 ·rename_i q
  rw [q] at e
  have a:es.toList.any (·.refKey)=false:=by
   rw [List.any_eq_false]
   intro y hy
   obtain ⟨z,t,lI⟩:=hk y (Array.mem_toList_iff.mp hy)
   simp [DictEntry.refKey,lI]
  have a':¬es.toList.any (·.refKey)=true:=by rw [a];exact Bool.false_ne_true
  rw [zF a']
  exact congrArg some e
def f9.look {h:Heap}{x dx C:Addr}{mA:Ab}(I:f9 h x dx C mA):∃od,PySem.W.InstAt h x (PySem.W.instObj C dx) C (some od)/\∀name,PySem.W.lookIn name od=some (mA name) :=
 let ⟨od,ho,hl⟩:=xV I.ns
 ⟨od,⟨I.obj,rfl,rfl,ho⟩,hl⟩
section
variable {prog:Program}{w:World}{A:Around}{E:Aa}{s:Shared}{K:PySem.W.Frag}{x dx C f:Addr}{mA:Ab}{name:Str}{v:Value}
def Hw {expr:Bool}{Q:Aa}(X:K.In s.heap) (I:f9 s.heap x dx C mA) (hg:PySem.W.plainGet K C name=true) (hh:PySem.W.hasDictIn K C=true)
  (ha:PySem.W.findIn K (.ref C) name=some none) (hv:mA name=some v) (pY:PySem.W.handedIn v=true) (h:Q v { s with toks:=s.toks+1 }) :
  wpAny (model prog w) A (getAttr (.ref x) name expr) Q E s:=by
 obtain ⟨od,J,hl⟩:=I.look
 exact PySem.W.get_value X J (PySem.W.plainGet_of hg).1 (PySem.W.findObj_own hh ha rfl (by rw [hl,hv])) pY h
def Hx {pl:Sem Bool}{Q:Value×List Value->Shared->Prop}(X:K.In s.heap) (I:f9 s.heap x dx C mA) (hg:PySem.W.plainGet K C name=true)
  (hf:PySem.W.findIn K (.ref C) name=some (some (.ref f))) (ht:PySem.W.isFn K (.ref f)=true) (hv:mA name=none) (h:Q (.ref f,[.ref x]) s) :
  wpAny (model prog w) A (getMethod (.ref x) name pl) Q E s:=by
 obtain ⟨od,J,hl⟩:=I.look
 exact PySem.W.method_fn X J (PySem.W.plainGet_of hg).1 (PySem.W.plainGet_of hg).2 hf (beq_iff_eq.mp ht) (by show (PySem.W.lookIn name od).map (·.isSome)=some false;rw [hl,hv];rfl) h
theorem Hy {ns:Ad}{Q:Unit->Shared->Prop}(X:K.In s.heap) (I:f9 s.heap x dx C mA)
  (hs:PySem.W.findIn K (.ref C) "__setattr__" = some (some (.builtin "object.__setattr__"))) (hp:PySem.W.plainOver K C=true) (ht:PySem.W.takerIn K C name=some none) (hh:PySem.W.hasDictIn K C=true)
  (hw:PySem.Within mA ns) (hsz:ns.length<=sizeLine)
  (h:∀h',f9 h' x dx C (λy=>if y=name then some v else mA y)->Heap.SameBut dx s.heap h'->Q () { s with heap:=h',toks:=s.toks+2 }) :
  wpAny (model prog w) A (setAttr (.ref x) name v) Q E s:=by
 obtain ⟨od,J,hl⟩:=I.look
 refine PySem.W.set_plain X J hs (PySem.W.osa_open (s:={ s with toks:=s.toks+1 }) (r:=none) X J hp ht λb=>?_)
 obtain ⟨cd,hc,dH⟩:=PySem.W.any_some hh
 have hx:s.heap.get? x=some ⟨.ref C,some dx,.plain,#[]⟩:=I.obj
 refine zp (zK (zp (zp (wpAny_loadPart hx (zp (PySem.W.Looks.here (s:={ s with toks:=s.toks+1 }) (PySem.W.looks_clsIn X hc) ?_))))))
 rw [dH]
 refine zK (a:=some dx) (zp (zK (zp ?_)))
 refine wpAny_nsSet1 (s:={ s with toks:=s.toks+1 }) I.ns λh' fB fC=>?_
 obtain ⟨oD,Hz,HA,sH,sI,sJ⟩:=fB.count (PySem.Within.cons name v hw)
 refine zp (wpAny_lookBehind sH (by rw [sI];exact pastItsLine_dict (y6 sJ (by rw [wz];omega))) ?_)
 exact zK (h _ ⟨(fC.2 _ (yD I.ne)).trans I.obj,fB,I.ne⟩ fC)
def HB {R:Result->Shared->Prop}{vs:Af}{kw:List (Str×Value)}(X:K.In s.heap) (hm:PySem.W.makesIn K C=true)
  (hi:PySem.W.findIn K (.ref C) "__init__" = some (some (.ref f))) (hf:PySem.W.typeIn K (.ref f)=some (.type "function"))
  (h:codeAny (model prog w) (A.under (.builtin "type.__call__" ⟨.ref C::vs,kw⟩)) (.call (.ref f) ⟨.ref (s.heap.objs.size+1)::vs,kw⟩) (PySem.W.InitBack (s.heap.objs.size+1) R)
   { s with heap:=(s.heap.push PySem.W.emptyDict).push (PySem.W.instObj C s.heap.objs.size) }) :
  codeAny (model prog w) A (.call (.ref C) ⟨vs,kw⟩) R s:=by
 obtain ⟨hh,g,d,t,os⟩:=s
 exact PySem.W.make_core (PySem.W.makes_of X hm) (PySem.W.looks_findIn X hi) (λself=>PySem.W.bind_fn X self hf) (.inl rfl) h
end
def cf (f:Str) (v:V):List (Str×V)->List (Str×V)
 | []=>[(f,v)]
 | (g,x)::r=>if g=f then (g,v)::r else (g,x)::cf f v r
theorem xW (f g:Str) (v:V):∀fs:List (Str×V),(cf f v fs).lookup g=if g=f then some v else fs.lookup g
 | []=>by
  show List.lookup g [(f,v)]=_
  by_cases h:g=f
  ·have hb:(g==f)=true:=beq_iff_eq.mpr h
   simp only [List.lookup,hb,zu h]
  ·have hb:(g==f)=false:=beq_eq_false_iff_ne.mpr h
   simp only [List.lookup,hb,zF h]
 | (k,x)::r=>by
  have ih:=xW f g v r
  rw [show cf f v ((k,x)::r)=(if k=f then (k,v)::r else (k,x)::cf f v r) from rfl]
  by_cases hk:k=f
  ·rw [zu hk]
   by_cases h:g=k
   ·have hb:(g==k)=true:=beq_iff_eq.mpr h
    simp only [List.lookup,hb,zu (h.trans hk)]
   ·have hb:(g==k)=false:=beq_eq_false_iff_ne.mpr h
    simp only [List.lookup,hb,zF (λe:g=f=>h (e.trans hk.symm))]
  ·rw [zF hk]
   by_cases h:g=k
   ·have hb:(g==k)=true:=beq_iff_eq.mpr h
    simp only [List.lookup,hb,zF (λe:g=f=>hk (h.symm.trans e))]
   ·have hb:(g==k)=false:=beq_eq_false_iff_ne.mpr h
    simp only [List.lookup,hb]
    exact ih
theorem sL (f:Str) (v:V):∀fs:List (Str×V),f∈(cf f v fs).map (·.1)/\∀g,g∈fs.map (·.1)->g∈(cf f v fs).map (·.1)
 | []=>⟨by simp [cf],λg h=>by simp at h⟩
 | (k,x)::r=>by
  obtain ⟨i1,i2⟩:=sL f v r
  rw [show cf f v ((k,x)::r)=(if k=f then (k,v)::r else (k,x)::cf f v r) from rfl]
  by_cases hk:k=f
  ·rw [zu hk]
   subst hk
   exact ⟨by simp,λg h=>by simpa using h⟩
  ·rw [zF hk]
   refine ⟨?_,λg h=>?_⟩
   ·rw [yQ]
    exact jr _ i1
   ·rw [yQ] at h ⊢
    rcases yE.mp h with e|e
    ·exact yE.mpr (.inl e)
    ·exact jr _ (i2 g e)
theorem xX (f:Str) (v:V):∀fs:List (Str×V),(cf f v fs).length<=fs.length+1
 | []=>by simp [cf]
 | (k,x)::r=>by
  have ih:=xX f v r
  rw [show cf f v ((k,x)::r)=(if k=f then (k,v)::r else (k,x)::cf f v r) from rfl]
  by_cases hk:k=f
  ·rw [zu hk,wz,wz];omega
  ·rw [zF hk,wz,wz];omega
def b_.some_of {v:V}{o:Option Value}(r:b_ (some v) o):∃u,o=some u/\RelV v u:=by
 cases o with
 | none=>exact (show False from r).elim
 | some u=>exact ⟨u,rfl,r⟩
def b_.none_of {o:Option Value}(r:b_ none o):o=none:=by
 cases o with
 | none=>rfl
 | some u=>exact (show False from r).elim
def xY {v:V}{u:Value}(r:RelV v u):PySem.W.handedIn u=true:=by
 cases v with
 | non=>cases (show u=Value.none from r);rfl
 | bl b=>cases (show u=Value.bool b from r);rfl
 | int i=>obtain ⟨t,e⟩:=(show ∃t,u=Value.int i t from r);cases e;rfl
 | str x=>obtain ⟨t,e⟩:=(show ∃t,u=Value.str x t from r);cases e;rfl
 | byt b=>obtain ⟨t,e⟩:=(show ∃t,u=Value.bytes b t from r);cases e;rfl
 | flt b=>obtain ⟨t,e⟩:=(show ∃t,u=Value.float b t from r);cases e;rfl
 | ref a=>cases (show u=Value.ref a from r);rfl
 | ty n=>cases (show u=Value.type n from r);rfl
section
variable {P:Program}{w:World}{H H':Hp}{h h':Heap}{a C dx:Addr}{fs F1:List (Str×V)}
def pZ (hok:bR P w H h) (e:H a=some (.ins C dx fs)):∃mA,f9 h a dx C mA/\(∀f,b_ (fs.lookup f) (mA f))/\PySem.Within mA (fs.map (·.1))/\fs.length<=1000/\H dx=some (.own a):=by
 obtain ⟨d,z,ne,ob,mA,n,r,q⟩:=(show aZ P w H h a (.ins C dx fs) from hok a _ e)
 exact ⟨mA,⟨ob,n,ne⟩,r,q,z,d⟩
end
structure eP (K:PySem.W.Frag) (C:Addr):Prop where
 pg:PySem.W.plainGet K C Str.empty=true
 hd:PySem.W.hasDictIn K C=true
 po:PySem.W.plainOver K C=true
 sa:PySem.W.findIn K (.ref C) "__setattr__" = some (some (.builtin "object.__setattr__"))
def eP.get {K:PySem.W.Frag}{C:Addr}(c:eP K C) (f:Str):PySem.W.plainGet K C f=true:=c.pg
def cY (K:PySem.W.Frag) (C:Addr) (f:Str):Prop:=PySem.W.findIn K (.ref C) f=some none
def cY.taker {K:PySem.W.Frag}{C:Addr}{f:Str}(n:cY K C f):PySem.W.takerIn K C f=some none:=by
 unfold PySem.W.takerIn
 rw [show PySem.W.findIn K (.ref C) f=some none from n]
 rfl
structure V6 (K:PySem.W.Frag) (C:Addr) (f:Str) (v:V) (u:Value):Prop where
 at_:PySem.W.findIn K (.ref C) f=some (some u)
 rel:RelV v u
 get:PySem.W.specialIn K u "__get__" = some none
 cp:PySem.W.copiedNames.contains f=false
structure Meth (K:PySem.W.Frag) (C:Addr) (m:Str) (f:Addr):Prop where
 at_:PySem.W.findIn K (.ref C) m=some (some (.ref f))
 fn:PySem.W.isFn K (.ref f)=true
 kp:PySem.W.keepIn K (.ref f)=true
section
variable {X:Cx}{pins:Ac}{U:St}{H:Hp}{s:Shared}{a C dx:Addr}{fs:List (Str×V)}{f:Str}{v:V}{A:Around}{E:Aa}
def HC {b:Bool}{Q:Aa}(I:Inv X pins U H s) (e:H a=some (.ins C dx fs)) (c:eP X.K C) (n:cY X.K C f) (l:fs.lookup f=some v)
  (h:∀u s',Inv X pins U H s'->RelV v u->Q u s'):wpAny (model X.prog X.w) A (getAttr (.ref a) f b) Q E s:=by
 obtain ⟨mA,O,r,_,_,_⟩:=pZ I.hok e
 obtain ⟨u,hu,ru⟩:=b_.some_of (v:=v) (o:=mA f) (by rw [<-l];exact r f)
 exact Hw I.kIn O (c.get f) c.hd n hu (xY ru) (h u _ (I.tok _) ru)
def sN {m:Str}{g:Addr}{pl:Sem Bool}{Q:Value×List Value->Shared->Prop}(I:Inv X pins U H s) (e:H a=some (.ins C dx fs)) (c:eP X.K C) (k:Meth X.K C m g) (l:fs.lookup m=none)
  (h:Q (.ref g,[.ref a]) s):wpAny (model X.prog X.w) A (getMethod (.ref a) m pl) Q E s:=by
 obtain ⟨mA,O,r,_,_,_⟩:=pZ I.hok e
 have hn:mA m=none:=b_.none_of (by rw [<-l];exact r m)
 exact Hx I.kIn O (c.get m) k.at_ k.fn hn h
theorem HD {y:V}{u:Value}{Q:Unit->Shared->Prop}(I:Inv X pins U H s) (e:H a=some (.ins C dx fs)) (c:eP X.K C) (n:cY X.K C f) (hl:fs.length<1000) (ry:RelV y u)
  (h:∀s',Inv X pins U (upd H a (.ins C dx (cf f y fs))) s'->Q () s'):wpAny (model X.prog X.w) A (setAttr (.ref a) f u) Q E s:=by
 obtain ⟨mA,O,r,wi,_,ho⟩:=pZ I.hok e
 have hz:(fs.map (·.1)).length<=sizeLine:=by rw [jZ,sizeLine_eq];omega
 refine Hy I.kIn O c.sa c.po n.taker c.hd wi hz λh' O' sb=>h _ ?_
 have hd:∃o,h'.get? dx=some o:=let ⟨o,_,_,e',_⟩:=O'.ns;⟨o,e'⟩
 refine I.write (x:=a) (e:=dx) (by rw [e];exact True.intro) (.inr ho) (λb q hb z=>(sb.2 b hb).trans z) hd ?_
 refine ⟨by rw [zW O.ne];exact ho,?_,O.ne,O'.obj,_,O'.ns,λg=>?_,λg hg=>?_⟩
 ·have:=xX f y fs;omega
 ·show b_ ((cf f y fs).lookup g) (if g=f then some u else mA g)
  rw [xW]
  by_cases q:g=f
  ·rw [zu q,zu q];exact ry
  ·rw [zF q,zF q];exact r g
 ·by_cases q:g=f
  ·rw [q];exact (sL f y fs).1
  ·refine (sL f y fs).2 g (wi g λz=>hg ?_)
   show (if g=f then some u else mA g)=none
   rw [zF q];exact z
def Inv.made (I:Inv X pins U H s):Inv X pins U (upd (upd H s.heap.objs.size (.own (s.heap.objs.size+1))) (s.heap.objs.size+1) (.ins C s.heap.objs.size []))
  { s with heap:=(s.heap.push PySem.W.emptyDict).push (PySem.W.instObj C s.heap.objs.size) }:=by
 have e1:(s.heap.push PySem.W.emptyDict).get? s.heap.objs.size=some PySem.W.emptyDict:=yP s.heap rfl
 have e2:((s.heap.push PySem.W.emptyDict).push (PySem.W.instObj C s.heap.objs.size)).get? (s.heap.objs.size+1)=some (PySem.W.instObj C s.heap.objs.size):=by
  have:=yP (s.heap.push PySem.W.emptyDict) (o:=PySem.W.instObj C s.heap.objs.size) rfl
  rwa [Heap.size_push] at this
 have e3:(s.heap.push PySem.W.emptyDict).Ns s.heap.objs.size (λ_=>none):=⟨PySem.W.emptyDict,#[],_,e1,rfl,(λe he=>absurd he (by simp)),λ_=>rfl⟩
 have I1:=I.laid (a:=s.heap.objs.size) (o:=.own (s.heap.objs.size+1)) (h':=s.heap.push PySem.W.emptyDict) (t':=s.toks) (λb u q=>zZ _ q) (yd _) ⟨_,e1⟩
 refine I1.laid (a:=s.heap.objs.size+1) (o:=.ins C s.heap.objs.size []) (t':=s.toks) (λb u q=>zZ _ q) (Nat.le_of_eq (Heap.size_push _ _)) ?_
 have ne:s.heap.objs.size≠s.heap.objs.size+1:=yz (jS _)
 refine ⟨by rw [zW ne,yx],jc _,ne,e2,λ_=>none,(Heap.Ns1.of_empty e3).at λo q=>zZ _ q,λ_=>True.intro,λy hy=>absurd rfl hy⟩
def HE {prog:Program}{w:World}{env:Env}{e:Expr}{f:Str}{pos:Pos}{s:Shared}{Q:Aa}(hb:attributeBase e f env (eval e env)=eval e env)
  (h:wpAny (model prog w) A (eval e env) (λo ak=>wpAny (model prog w) A (getAttr o f true) Q E ak) E s):wpAny (model prog w) A (eval (.Attribute e f pos) env) Q E s :=
 Attribute_any_ h (by rw [arm_eval_Attribute,hb])
end
def sFld (K:PySem.W.Frag) (ta tv:TE) (f:Str):TS:=λD U H=>tv U H λy H1=>ta U H1 λx H2=>∃a C dx fs,x=.ref a/\H2 a=some (.ins C dx fs)/\eP K C/\cY K C f/\fs.length<1000 /\
 D.nx U (upd H2 a (.ins C dx (cf f y fs)))
section
variable {X:Cx}{o e value:Expr}{f:Str}{pos pos' xZ:Pos}{ta tv:TE}
def HF (ha:PE X o ta) (hv:PE X value tv) (hs:swapsWith value (some (.Attribute o f pos')) pos.line X.env=pure false):PS X (.Assign [.Attribute o f pos'] value pos) (sFld X.K ta tv f):=by
 intro pins s U H D I h
 refine plainObj_wpAny_Assign_Attribute (aU (hv pins s U H _ I h) λu s1 ⟨y,H1,I1,ry,q⟩=>aU (ha pins s1 U H1 _ I1 q) λov s2 ⟨x,H2,I2,rx,a,C,dx,fs,ex,ea,c,n,l,q2⟩=>?_) hs
 subst ex
 obtain rfl:ov=Value.ref a:=rx
 exact HD I2 ea c n l ry λs3 I3=>⟨U,_,I3,q2⟩
end
section
variable {X:Cx}{pins:Ac}{U:St}{H:Hp}{s:Shared}{A:Around}{E:Aa}{Q:Aa}{c:Value}{b:Bool}
inductive df (K:PySem.W.Frag) (H:Hp):V->Value->Prop where
 | non:df K H .non (.type "NoneType")
 | bl (x:Bool):df K H (.bl x) (.type "bool")
 | int (i:Int):df K H (.int i) (.type "int")
 | str (x:Str):df K H (.str x) (.type "str")
 | flt (x:UInt64):df K H (.flt x) (.type "float")
 | lst {a:Addr} {xs:List V} (e:H a=some (.lst xs)):df K H (.ref a) (.type "list")
 | frz {a:Addr} {o:Obj} {xs:List V} (e:H a=some (.frz o (.lst xs))):df K H (.ref a) (.type "list")
 | tup {a:Addr} {xs:List V} (e:H a=some (.tup xs)):df K H (.ref a) (.type "tuple")
 | dK {a:Addr} {kvs:List (Key×V)} (e:H a=some (.dK kvs)):df K H (.ref a) (.type "dict")
 | dT {a:Addr} {kvs:List (List Key×V)} (e:H a=some (.dT kvs)):df K H (.ref a) (.type "dict")
 | ins {a C dx:Addr} {fs:List (Str×V)} (e:H a=some (.ins C dx fs)) (cl:eP K C) (ha:PySem.W.findIn K (.ref C) "__class__" = some (some (.builtin "object.__class__")))
   (hn:PySem.W.specialIn K (.builtin "object.__class__") "__get__" = some (some (.builtin "getset_descriptor.__get__"))) (x5:PySem.W.takesIn K (.builtin "object.__class__")=some true)
   (hm:PySem.W.mroIn K C (.type "object")=some true):df K H (.ref a) (.ref C)
def HG {x:V}{u t:Value}(I:Inv X pins U H s) (rx:RelV x u) (ty:df X.K H x t) (e:PySem.W.kitOne X.K t c=some b) (h:∀tk,Q (.bool b) { s with toks:=tk }) :
  wpAny (model X.prog X.w) A (call (.builtin "isinstance") [u,c]) Q E s:=by
 cases ty with
 | non=>cases (show u=Value.none from rx);exact PySem.W.kia_one PySem.W.kitx_none I.kIn True.intro e (λz=>nomatch z) h
 | bl y=>cases (show u=Value.bool y from rx);exact PySem.W.kia_one PySem.W.kitx_bool I.kIn True.intro e (λz=>nomatch z) h
 | int i=>obtain ⟨t,q⟩:=(show ∃t,u=Value.int i t from rx);cases q;exact PySem.W.kia_one PySem.W.kitx_int I.kIn True.intro e (λz=>nomatch z) h
 | str y=>obtain ⟨t,q⟩:=(show ∃t,u=Value.str y t from rx);cases q;exact PySem.W.kia_one PySem.W.kitx_str I.kIn True.intro e (λz=>nomatch z) h
 | flt y=>obtain ⟨t,q⟩:=(show ∃t,u=Value.float y t from rx);cases q;exact PySem.W.kia_one PySem.W.kitx_float I.kIn True.intro e (λz=>nomatch z) h
 | @lst a xs ea =>
  cases (show u=Value.ref a from rx)
  obtain ⟨_,_,n,_,h1⟩:=(show aZ X.prog X.w H s.heap a (.lst xs) from I.hok a _ ea)
  exact PySem.W.kia_one PySem.W.kitx_list I.kIn ⟨_,h1,rfl⟩ e (λz=>nomatch z) h
 | @frz a ob xs ea =>
  cases (show u=Value.ref a from rx)
  obtain ⟨_,_,_,n,_,h1⟩:=(show aZ X.prog X.w H s.heap a (.frz ob (.lst xs)) from I.hok a _ ea)
  exact PySem.W.kia_one PySem.W.kitx_list I.kIn ⟨_,h1,rfl⟩ e (λz=>nomatch z) h
 | @tup a xs ea =>
  cases (show u=Value.ref a from rx)
  obtain ⟨_,_,_,p⟩:=(show aZ X.prog X.w H s.heap a (.tup xs) from I.hok a _ ea)
  obtain ⟨o,h1,h2,_⟩:=p
  exact PySem.W.kia_one PySem.W.kitx_tuple I.kIn ⟨o,h1,h2⟩ e (λz=>nomatch z) h
 | @dK a kvs ea =>
  cases (show u=Value.ref a from rx)
  obtain ⟨_,_,vs,_,p⟩:=(show aZ X.prog X.w H s.heap a (.dK kvs) from I.hok a _ ea)
  obtain ⟨o,es,ep,h1,h2,_⟩:=p
  exact PySem.W.kia_one PySem.W.kitx_dict I.kIn ⟨o,h1,h2.1⟩ e (λz=>nomatch z) h
 | @dT a kvs ea =>
  cases (show u=Value.ref a from rx)
  obtain ⟨_,_,xs,_,o,es,ep,h1,h2,_⟩:=(show aZ X.prog X.w H s.heap a (.dT kvs) from I.hok a _ ea)
  exact PySem.W.kia_one PySem.W.kitx_dict I.kIn ⟨o,h1,h2.1⟩ e (λz=>nomatch z) h
 | @ins a C dx fs ea cl ha hn x5 hm =>
  cases (show u=Value.ref a from rx)
  obtain ⟨mA,O,_⟩:=pZ I.hok ea
  obtain ⟨od,J,_⟩:=O.look
  exact PySem.W.kia_one (PySem.W.kitx_own (cl.get _) cl.hd ha hn x5 hm) I.kIn J e (λz=>nomatch z) h
end
structure aW (k:Nat) (A:Around):Prop where
 hd:A.handled=none
 dp:A.depth+3*k+5<recursionLimit
 un:A.units+16*k+200<cLine
theorem aW.mono {j k:Nat}{A:Around}(r:aW k A) (h:j<=k):aW j A:=⟨r.hd,by have:=r.dp;omega,by have:=r.un;omega⟩
theorem aW.deeper {k:Nat}{A:Around}(r:aW (k+1) A) (env:Env):aW k (A.deeper env) :=
 ⟨r.hd,by have:=r.dp;show A.depth+1+3*k+5<_;omega,by have:=r.un;show A.units+3+16*k+200<_;omega⟩
theorem aW.in1 {k:Nat}{A:Around}(r:aW (k+1) A):aW k A.in1 :=
 ⟨r.hd,by have:=r.dp;show A.depth+3*k+5<_;omega,by have:=r.un;show A.units+1+16*k+200<_;omega⟩
def HH {A:Around} {C:Addr} {us:Af} {kw:List (Str×Value)}:(A.under (.builtin "type.__call__" ⟨.ref C::us,kw⟩)).depth=A.depth+1:=by
 first|rfl|simp [Around.under,Code.weight,Code.isCreation,Code.isGuard,Code.isCaller,Code.frames,Code.isFrame,guardIds]
def HI {A:Around} {C:Addr} {us:Af} {kw:List (Str×Value)}:(A.under (.builtin "type.__call__" ⟨.ref C::us,kw⟩)).units=A.units+1:=by
 first|rfl|simp [Around.under,Code.cUnits,Code.frames,Code.isFrame]
theorem aW.make {k:Nat} {A:Around} (r:aW (k+1) A) (C:Addr) (us:Af) (kw:List (Str×Value)):aW k (A.under (.builtin "type.__call__" ⟨.ref C::us,kw⟩)) :=
 ⟨r.hd,by have:=r.dp;rw [HH];omega,by have:=r.un;rw [HI];omega⟩
theorem aW.depth {k:Nat}{A:Around}(r:aW k A):A.depth<recursionLimit:=by have:=r.dp;omega
theorem aW.units {k:Nat}{A:Around}(r:aW k A):A.units+64<cLine:=by have:=r.un;omega
def x6:TA:=λ_ H Q=>Q [] H
def HJ (ta:TE) (tr:TA):TA:=λU H Q=>ta U H λx H1=>tr U H1 λxs H2=>Q (x::xs) H2
section
variable {X:Cx}{e:Expr}{es:List Expr}{te:TE}{t:TA}{pos:Pos}
def p5:PA X [] x6:=λ_ _ _ _ H Q I h=>Calls.spliced_nil ⟨[],H,I,.nil,h⟩
def p6 (ha:PE X e te) (hr:PA X es t) (hs:starEach (e::es) X.env=(false,eval e X.env)::starEach es X.env:=by rfl):PA X (e::es) (HJ te t):=by
 intro pos pins s U H Q I h
 rw [hs]
 show wpAny _ _ (spliced ((false,eval e X.env)::backTo pos (starEach es X.env))) _ _ s
 refine Calls.spliced_cons (aU (ha pins s U H _ I h) λu s1 ⟨x,H1,I1,r1,q1⟩=>?_)
 exact aU (hr pos pins s1 U H1 _ I1 q1) λus s2 ⟨xs,H2,I2,r2,q2⟩=>⟨x::xs,H2,I2,.cons r1 r2,q2⟩
def HK (t:TA):TE:=λU H Q=>t U H λxs H1=>xs.length<=sizeLine/\∀p,H1 p=none->Q (.ref p) (upd H1 p (.tup xs))
def HL (t:TA):TE:=λU H Q=>t U H λxs H1=>xs.length<=sizeLine/\∀p,H1 p=none->Q (.ref p) (upd H1 p (.lst xs))
def HM {x1}(h:PA X es t):PE X (.Tuple es x1 pos) (HK t):=by
 intro pins s U H Q I hq
 refine wpAny_Tuple_spliced (aU (h pos pins s U H _ I hq) λus s1 ⟨xs,H1,I1,r,z,q⟩=>⟨by rw [<-r.length];exact z,?_⟩)
 have hf:H1 s1.heap.objs.size=none:=I1.hok.fresh (yd _)
 refine ⟨.ref s1.heap.objs.size,upd H1 s1.heap.objs.size (.tup xs),I1.laid (t':=s1.toks) (λb u e=>zZ _ e) (yd _) ?_,rfl,q _ hf⟩
 exact ⟨z,us,r,⟨_,yP _ rfl,rfl,_,rfl⟩⟩
def HN (h:PA X es t):PE X (.List es pos) (HL t):=by
 intro pins s U H Q I hq
 refine wpAny_List_spliced (aU (h pos pins s U H _ I hq) λus s1 ⟨xs,H1,I1,r,z,q⟩=>⟨by rw [<-r.length];exact z,?_⟩)
 have hf:H1 s1.heap.objs.size=none:=I1.hok.fresh (yd _)
 refine ⟨.ref s1.heap.objs.size,upd H1 s1.heap.objs.size (.lst xs),I1.laid (t':=s1.toks) (λb u e=>zZ _ e) (yd _) ?_,rfl,q _ hf⟩
 exact ⟨z,us,0,r,yP _ rfl⟩
end
abbrev Sp:=List V->Hp->VK->XK->Prop
abbrev dI:=List Env->Hp->Shared->XK->Aa
structure eJ (P:Program) (w:World) (K:PySem.W.Frag) (mg:Ab) (base:Heap) (A:Around) (outer:List Env) (s:Shared) (H:Hp):Prop where
 frames:A.frames=some outer
 mod:Mod K mg base
 bs:∀b o,base.get? b=some o->s.heap.get? b=some o/\H b=none
 bsz:base.objs.size<=s.heap.objs.size
 funs:s.heap.FunFrames base outer
 frf:∀b∈cN outer,H b=none
 hok:bR P w H s.heap
 bare:AllBare s.gens
def CE (outer:List Env) (P:Program) (w:World) (H:Hp) (s:Shared) (Q:VK) (u:Value) (s':Shared):Prop :=
 ∃v H',s'.os=s.os/\AllBare s'.gens/\Un (cN outer) [] H H' s.heap s'.heap/\bR P w H' s'.heap/\RelV v u/\Q v H'
def CR (CX:dI) (outer:List Env) (P:Program) (w:World) (H:Hp) (s:Shared) (Q:VK) (E:XK) (r:Result) (s':Shared):Prop :=
 match r with
 | .ok (.ret u)=>CE outer P w H s Q u s'
 | .ok _=>False
 | .error e=>CX outer H s E e s'
structure bp (P:Program) (w:World) (K:PySem.W.Frag) (mg:Ab) (base:Heap) (CX:dI) (k:Nat) (f:Addr) (fd:FuncData) (ps:Ad) (sp:Sp):Prop where
 len:∀vs H Q E,sp vs H Q E->vs.length=ps.length
 run:∀(A:Around) (outer:List Env) (s:Shared) (H:Hp) (args:Args) (us:Af) (vs:List V) (Q:VK) (E:XK),aW k A->eJ P w K mg base A outer s H->BindsTo s fd args (ps.zip us)->Vals vs us->sp vs H Q E ->
  codeAny (model P w) A (.call (.ref f) args) (CR CX outer P w H s Q E) s
def bp.mono {P:Program}{w:World}{K:PySem.W.Frag}{mg:Ab}{base:Heap}{CX:dI}{j k:Nat}{f:Addr}{fd:FuncData}{ps:Ad}{sp:Sp}(F:bp P w K mg base CX j f fd ps sp) (h:j<=k) :
  bp P w K mg base CX k f fd ps sp:=⟨F.len,λA outer s H args us vs Q E hr=>F.run A outer s H args us vs Q E (hr.mono h)⟩
def bp.imp {P:Program}{w:World}{K:PySem.W.Frag}{mg:Ab}{base:Heap}{CX:dI}{k:Nat}{f:Addr}{fd:FuncData}{ps:Ad}{sp x8:Sp}(F:bp P w K mg base CX k f fd ps sp)
  (h:∀vs H Q E,x8 vs H Q E->sp vs H Q E):bp P w K mg base CX k f fd ps x8 :=
 ⟨λvs H Q E q=>F.len vs H Q E (h _ _ _ _ q),λA outer s H args us vs Q E hr he hb hv hs=>F.run A outer s H args us vs Q E hr he hb hv (h _ _ _ _ hs)⟩
def eJ.make {P:Program}{w:World}{K:PySem.W.Frag}{mg:Ab}{base:Heap}{A:Around}{outer:List Env}{s:Shared}{H:Hp}(e:eJ P w K mg base A outer s H) (C:Addr) (us:Af) (kw:List (Str×Value)) :
  eJ P w K mg base (A.under (.builtin "type.__call__" ⟨.ref C::us,kw⟩)) outer s H:=⟨by first|exact e.frames|(simpa [Around.under,Code.envs,Code.isFrame,pushEnvs] using e.frames),e.mod,e.bs,e.bsz,e.funs,e.frf,e.hok,e.bare⟩
def eJ.in1 {P:Program}{w:World}{K:PySem.W.Frag}{mg:Ab}{base:Heap}{A:Around}{outer:List Env}{s:Shared}{H:Hp}(e:eJ P w K mg base A outer s H) :
  eJ P w K mg base A.in1 outer s H:=⟨e.frames,e.mod,e.bs,e.bsz,e.funs,e.frf,e.hok,e.bare⟩
section
variable {X:Cx}{pins:Ac}{U:St}{H:Hp}{s s':Shared}
def Inv.env0 (I:Inv X pins U H s):eJ X.prog X.w X.K X.mg X.base X.A X.stack s H :=
 ⟨I.ok.frames,I.ok.mod,I.bs,y6 I.ok.bsz I.sz,I.stack,I.stkFree,I.hok,I.bare⟩
def Inv.after {Q:VK}{u:Value}(I:Inv X pins U H s) (h:CE X.stack X.prog X.w H s Q u s'):EP X pins U Q u s':=by
 obtain ⟨v,H',os,bare,un,hok,r,q⟩:=h
 obtain ⟨hh,g,d,t,HP⟩:=s'
 obtain rfl:HP=s.os:=os
 exact ⟨v,H',I.call (h':=hh) (g':=g) (d':=d) (t':=t) (ch:=[]) un hok bare (λb z=>absurd z (by simp)),r,q⟩
end
def HQ (sp:Sp) (cJ:List V) (E:XK) (t:TA):TE:=λU H Q=>t U H λvs H1=>sp (vs++cJ) H1 Q E
def HR (C:Addr) (sp:Sp) (cJ:List V) (E:XK) (t:TA):TE:=λU H Q=>t U H λvs H1=>∀x dx,H1 x=none->H1 dx=none->dx≠x ->
 sp (.ref x::(vs++cJ)) (upd (upd H1 dx (.own x)) x (.ins C dx [])) (λv H2=>v=.non/\Q (.ref x) H2) E
def Binds (K:PySem.W.Frag) (fd:FuncData) (ps:Ad) (ds:Af):Prop :=
 ∀(s:Shared) (us:Af),K.In s.heap->(us++ds).length=ps.length->BindsTo s fd ⟨us,[]⟩ (ps.zip (us++ds))
def Binds.all {K:PySem.W.Frag}{fd:FuncData}{ps:Ad}(h:∀us:Af,us.length=ps.length->bindArgs fd ⟨us,[]⟩=pure (ps.zip us)):Binds K fd ps []:=λs us _ hl=>by
 rw [List.append_nil] at hl ⊢
 exact .of_eq (h us hl)
def Passes (CX:dI) (X:Cx) (E:XK):Prop:=∀(pins:Ac) (U:St) (H:Hp) (s:Shared) (e:Value) (s':Shared),Inv X pins U H s->CX X.stack H s E e s'->X.xe e s'
section
variable {X:Cx}{CX:dI}{k:Nat}{f C:Addr}{fd:FuncData}{ps:Ad}{sp:Sp}{cJ:List V}{ds:Af}{E:XK}{x m:Str}{p pos apos:Pos}{e o:Expr}{es:List Expr}{ta:TE}{t:TA}
def p7 {pins:Ac}{U:St}{H:Hp}{s:Shared}{Q:VK}{us:Af}{vs:List V}(F:bp X.prog X.w X.K X.mg X.base CX k f fd ps sp) (hr:aW k X.A) (hb:Binds X.K fd ps ds) (hd:Vals cJ ds) (hx:Passes CX X E)
  (I:Inv X pins U H s) (r:Vals vs us) (h:sp (vs++cJ) H Q E):wpAny (model X.prog X.w) X.A (call (.ref f) us) (EP X pins U Q) X.xe s:=by
 have r2:Vals (vs++cJ) (us++ds):=r.append hd
 have hl:(us++ds).length=ps.length:=by rw [<-r2.length];exact F.len _ _ _ _ h
 refine wpAny_call (codeAny_mono (F.run X.A X.stack s H ⟨us,[]⟩ (us++ds) (vs++cJ) Q E hr I.env0 (hb s us I.kIn hl) r2 h) λr s' hq=>?_)
 cases r with
 | error e=>exact hx pins U H s e s' I hq
 | ok fl =>
  cases fl with
  | ret u=>exact I.after hq
  | next=>exact hq.elim
  | brk=>exact hq.elim
  | cont=>exact hq.elim
def HS (F:bp X.prog X.w X.K X.mg X.base CX k f fd ps sp) (hr:aW k X.A) (hg:Gl X x) (hm:X.mg x=some (.ref f)) (hk:PySem.W.keepIn X.K (.ref f)=true) (hb:Binds X.K fd ps ds) (hd:Vals cJ ds) (hx:Passes CX X E)
  (ha:PA X (e::es) t) (bG:(x==("__debug__" : Str))=false:=by decide) (he:starEach (e::es) X.env=(false,eval e X.env)::starEach es X.env:=by rfl) (br:(backTo pos (starEach es X.env)).any (·.1)=false:=by rfl) :
  PE X (.Call (.Name x p) (e::es) [] pos) (HQ sp cJ E t):=by
 intro pins s U H Q I h
 refine wpAny_Call_Name_kw (iq I hg hm ?_ bG)
 refine PySem.W.callWith_K (h₀:=X.base) I.ok.mod.kin hk (aU (ha pos pins s U H _ I h) λus s1 ⟨vs,H1,I1,r,q⟩=>⟨I1.kIn,?_⟩) he br
 exact p7 F hr hb hd hx I1 r q
structure Mk (K:PySem.W.Frag) (C f:Addr):Prop where
 makes:PySem.W.makesIn K C=true
 init:PySem.W.findIn K (.ref C) "__init__" = some (some (.ref f))
 fn:PySem.W.isFn K (.ref f)=true
 kp:PySem.W.keepIn K (.ref C)=true
def x9 {pins:Ac}{U:St}{H:Hp}{s:Shared}{Q:VK}{us:Af}{vs:List V}(M:Mk X.K C f) (F:bp X.prog X.w X.K X.mg X.base CX k f fd ps sp) (hr:aW (k+1) X.A) (hb:Binds X.K fd ps ds) (hd:Vals cJ ds)
  (hx:Passes CX X E) (I:Inv X pins U H s) (r:Vals vs us)
  (h:∀x dx,H x=none->H dx=none->dx≠x->sp (.ref x::(vs++cJ)) (upd (upd H dx (.own x)) x (.ins C dx [])) (λv H2=>v=.non/\Q (.ref x) H2) E) :
  wpAny (model X.prog X.w) X.A (call (.ref C) us) (EP X pins U Q) X.xe s:=by
 have hq:=h (s.heap.objs.size+1) s.heap.objs.size (I.hok.fresh (Nat.le_succ _)) (I.hok.fresh (yd _)) (yz (jS _))
 have I2:=Inv.made (C:=C) I
 have r2:Vals (V.ref (s.heap.objs.size+1)::(vs++cJ)) (Value.ref (s.heap.objs.size+1)::(us++ds)):=.cons rfl (r.append hd)
 have hl:(Value.ref (s.heap.objs.size+1)::us++ds).length=ps.length:=by
  have e:=r2.length
  rw [F.len _ _ _ _ hq] at e
  exact e.symm
 refine wpAny_call (HB (f:=f) I.kIn M.makes M.init (beq_iff_eq.mp M.fn) (codeAny_mono (F.run _ X.stack _ _ ⟨Value.ref (s.heap.objs.size+1)::us,[]⟩ (Value.ref (s.heap.objs.size+1)::(us++ds)) _ _ E (hr.make C us [])
  (I2.env0.make C us []) (hb _ (Value.ref (s.heap.objs.size+1)::us) I2.kIn hl) r2 hq) λr s' hq'=>?_))
 cases r with
 | error e=>exact hx pins U _ _ e s' I2 hq'
 | ok fl =>
  cases fl with
  | ret u =>
   obtain ⟨v,H',I3,rv,ev,q3⟩:=I2.after hq'
   subst ev
   exact ⟨rv,⟨V.ref (s.heap.objs.size+1),H',I3,rfl,q3⟩⟩
  | next=>exact hq'.elim
  | brk=>exact hq'.elim
  | cont=>exact hq'.elim
def HU (M:Mk X.K C f) (F:bp X.prog X.w X.K X.mg X.base CX k f fd ps sp) (hr:aW (k+1) X.A) (hg:Gl X x) (hm:X.mg x=some (.ref C)) (hb:Binds X.K fd ps ds) (hd:Vals cJ ds) (hx:Passes CX X E)
  (ha:PA X (e::es) t) (bG:(x==("__debug__" : Str))=false:=by decide) (he:starEach (e::es) X.env=(false,eval e X.env)::starEach es X.env:=by rfl) (br:(backTo pos (starEach es X.env)).any (·.1)=false:=by rfl) :
  PE X (.Call (.Name x p) (e::es) [] pos) (HR C sp cJ E t):=by
 intro pins s U H Q I h
 refine wpAny_Call_Name_kw (iq I hg hm ?_ bG)
 refine PySem.W.callWith_K (h₀:=X.base) I.ok.mod.kin M.kp (aU (ha pos pins s U H _ I h) λus s1 ⟨vs,H1,I1,r,q⟩=>⟨I1.kIn,?_⟩) he br
 exact x9 M F hr hb hd hx I1 r q
end
section
variable {X:Cx}{CX:dI}{k:Nat}{f C:Addr}{fd:FuncData}{ps ks:Ad}{sp:Sp}{E:XK}{x m:Str}{p pos apos V0:Pos}{e o:Expr}{es:List Expr}{V7:List Keyword}{te ta:TE}{t tk:TA}{nm:Option Str}
structure FN (K:PySem.W.Frag) (fd:FuncData) (ps ks:Ad) (g:List Value->List Value->Af) (gV:List V->List V->List V):Prop where
 to:∀(s:Shared) (us ws:Af),K.In s.heap->(g us ws).length=ps.length->BindsTo s fd ⟨us,ks.zip ws⟩ (ps.zip (g us ws))
 rel:∀{vs:List V} {us:Af} {zs:List V} {ws:Af},Vals vs us->Vals zs ws->Vals (gV vs zs) (g us ws)
variable {g:List Value->List Value->Af}{gV:List V->List V->List V}
end
structure aa (N P:Ad) (sc:Scope):Prop where
 kind:sc.kind=.function
 co:sc.isCoroutine=false
 gen:sc.isGenerator=false
 nd:N.Nodup
 pre:N.take P.length=P
 par:∀x∈P,sc.names.lookup x=some .local\/sc.names.lookup x=some .cell
 nofree:∀y∈sc.names,y.2 ≠ .free
theorem x_ {kindOf:Str->Option NameKind}{x:Str}:∀{binds:List (Str×Value)}{m:Ab},(∀v,(x,v)∉binds)->bindL kindOf binds m x=m x
 | [],_,_=>rfl
 | (n,v)::r,m,h=>by
  unfold bindL
  rw [x_ λw hw=>h w (jr _ hw)]
  split
  ·have:x≠n:=by rintro rfl;exact h v jk
   simp [this]
  ·rfl
theorem y_ {kindOf:Str->Option NameKind}{x:Str}:∀{binds:List (Str×Value)}{m:Ab},(∀v,(x,v)∉binds)->bindC kindOf binds m x=m x
 | [],_,_=>rfl
 | (n,v)::r,m,h=>by
  unfold bindC
  rw [y_ λw hw=>h w (jr _ hw)]
  split
  ·rfl
  ·have:x≠n:=by rintro rfl;exact h v jk
   simp [this]
theorem z_ {kindOf:Str->Option NameKind}{x:Str}{v:Value}:∀{P:Ad}{vs:Af}{i:Nat}{m:Ab},P.Nodup->P[i]?=some x->vs[i]?=some v->kindOf x=some .local ->
  bindL kindOf (P.zip vs) m x=some v
 | [],_,_,_,_,h,_,_=>by simp at h
 | _::_,[],_,_,_,_,h,_=>by simp at h
 | p::P,w::vs,0,m,nd,h1,h2,hk=>by
  simp at h1 h2;subst h1;subst h2
  show bindL kindOf ((p,w)::P.zip vs) m p=_
  unfold bindL
  rw [x_ λv hv=>(jQ.mp nd).1 (List.of_mem_zip hv).1,zu hk]
  simp
 | p::P,w::vs,i+1,m,nd,h1,h2,hk=>by
  show bindL kindOf ((p,w)::P.zip vs) m x=_
  unfold bindL
  exact z_ (i:=i) (jQ.mp nd).2 (by simpa using h1) (by simpa using h2) hk
theorem Ao {kindOf:Str->Option NameKind}{x:Str}{v:Value}:∀{P:Ad}{vs:Af}{i:Nat}{m:Ab},P.Nodup->P[i]?=some x->vs[i]?=some v->kindOf x≠some .local ->
  bindC kindOf (P.zip vs) m x=some v
 | [],_,_,_,_,h,_,_=>by simp at h
 | _::_,[],_,_,_,_,h,_=>by simp at h
 | p::P,w::vs,0,m,nd,h1,h2,hk=>by
  simp at h1 h2;subst h1;subst h2
  show bindC kindOf ((p,w)::P.zip vs) m p=_
  unfold bindC
  rw [y_ λv hv=>(jQ.mp nd).1 (List.of_mem_zip hv).1,zF hk]
  simp
 | p::P,w::vs,i+1,m,nd,h1,h2,hk=>by
  show bindC kindOf ((p,w)::P.zip vs) m x=_
  unfold bindC
  exact Ao (i:=i) (jQ.mp nd).2 (by simpa using h1) (by simpa using h2) hk
def start (N:Ad) (vs:List V):St:=vs.map some++List.replicate (N.length-vs.length) none
def dg (CX:dI) (P:Program) (w:World) (K:PySem.W.Frag) (mg:Ab) (base:Heap) (N:Ad) (qual:Str) (scope:Scope) (f:Addr) (cd:Value) (A:Around) (outer:List Env) (s:Shared) (H:Hp) (E:XK):Cx where
 prog:=P
 w:=w
 K:=K
 mg:=mg
 base:=base
 A:=A.deeper (envOfC qual scope s.heap.objs.size f cd)
 N:=N
 s₀:=s
 H₀:=H
 env:=envOfC qual scope s.heap.objs.size f cd
 outer:=outer
 stack:=envOfC qual scope s.heap.objs.size f cd::outer
 ex:=[]
 calm:=true
 fn:=λ_=>true
 pn:=[]
 xe:=λe s'=>wpAny (model P w) (A.deeper (envOfC qual scope s.heap.objs.size f cd)) (leaving (envOfC qual scope s.heap.objs.size f cd) e) (λ_ sO=>CX outer H s E e sO) (λe' sO=>CX outer H s E e' sO) s'
def Aq {sc:Scope}{n:Nat}{x:Str}(h:sc.names.lookup x=some .cell):∃c,(cellsFrom n sc.names []).lookup x=some c:=by
 have q:=PySem.W.cellsFrom_some sc.names n [] (.inl h)
 exact Option.isSome_iff_exists.mp q
theorem HV {CX:dI}{P:Program}{w:World}{K:PySem.W.Frag}{mg:Ab}{base:Heap}{N ps:Ad}{qual:Str}{scope:Scope}{f:Addr}{cd:Value}{A:Around}{outer:List Env}{s s1:Shared}{H:Hp}{E:XK}{us:Af}{vs:List V}
  (S:aa N ps scope) (hd:A.handled=none) (e0:eJ P w K mg base A outer s H) (hl:vs.length=ps.length) (r:Vals vs us)
  (x:InCallC s s.heap.objs.size (bindL (envOfC qual scope s.heap.objs.size f cd).kindOf (ps.zip us) λ_=>none) (cellsFrom (s.heap.objs.size+1) scope.names []) (bindC (envOfC qual scope s.heap.objs.size f cd).kindOf (ps.zip us) λ_=>none) s1) :
  Inv (dg CX P w K mg base N qual scope f cd A outer s H E) [] (start N vs) H s1:=by
 have br:ps.length<=N.length:=by have:=congrArg List.length S.pre;rw [List.length_take] at this;omega
 obtain ⟨h1,tk,rfl,hk⟩:=x.done
 have nH:∀b:Addr,b∉(dg CX P w K mg base N qual scope f cd A outer s H E).ex:=λb z=>absurd (show b∈([]:Ae) from z) (by simp)
 refine ⟨⟨e0.mod,S.kind,rfl,rfl,yd _,λy z c h1 h2=>?_,λy hy=>?_,λy c _ h=>?_,λ_=>hd,Around.frames_deeper e0.frames,.inr ⟨rfl,rfl⟩,λb z=>absurd z (nH b),e0.bs,e0.bsz,λb _ _=>nH b,λb z=>absurd z (nH b),e0.funs,e0.frf⟩,
  rfl,e0.bare,Un.kept hk,⟨_,x.toInCall.ns,λi y v h1 h2 h3=>?_⟩,λy c h=>⟨_,x.cell y c h⟩,e0.hok.fresh (yd _),λy c h=>?_,λp hp=>absurd (show p∈([]:Ac) from hp) (by simp),e0.hok.kept hk,?_⟩
 ·exact name_of_addr x.apart (PySem.mem_of_lookup h1) (PySem.mem_of_lookup h2)
 ·have hy:scope.names.lookup y=some .cell\/scope.names.lookup y=some .free:=hy
  rcases hy with hy|hy
  ·exact Aq hy
  ·exact absurd rfl (S.nofree _ (PySem.mem_of_lookup hy))
 ·exact Nat.le_of_lt (x.above y c (PySem.mem_of_lookup h))
 ·have hi:i<vs.length:=by
   unfold start at h2
   by_cases hi:i<vs.length
   ·exact hi
   ·rw [kf (by simpa using hi)] at h2
    rw [List.getElem?_replicate] at h2
    split at h2<;>cases h2
  have ha:vs[i]?=some v:=by
   unfold start at h2
   rw [ik (by simpa using hi),jY] at h2
   cases e:vs[i]? with
   | none=>rw [e] at h2;cases h2
   | some a=>rw [e] at h2;cases h2;rfl
  obtain ⟨u,hu,rv⟩:=r.get ha
  have hp:ps[i]?=some y:=by
   rw [<-S.pre,List.getElem?_take_of_lt (by omega)];exact h1
  have Av:ps.Nodup:=by rw [<-S.pre];exact S.nd.sublist (List.take_sublist _ _)
  refine ⟨u,rv,?_⟩
  rcases S.par y (m7 hp) with k|k
  ·exact .inl ⟨k,z_ Av hp hu k⟩
  ·obtain ⟨c,e⟩:=Aq (n:=s.heap.objs.size+1) k
   refine .inr ⟨.inl k,c,e,?_⟩
   have q:=x.cell y c e
   rw [Ao Av hp hu (by show scope.names.lookup y≠_;rw [k];decide)] at q
   exact q
 ·exact e0.hok.fresh (Nat.le_of_lt (x.above y c (PySem.mem_of_lookup h)))
 ·unfold start
  show _=N.length
  rw [ig,jZ,List.length_replicate]
  omega
def Aw {CX:dI}{P:Program}{w:World}{K:PySem.W.Frag}{mg:Ab}{base:Heap}{k:Nat}{f:Addr}{name qual:Str}{params:Arguments}{body:List Stmt}{scope:Scope}{dV kV doc pm aX ct oc:Value}{an od:Option Addr}
  {eQ:Array (Option Value)} {N ps:Ad} {sp:Sp} (lk:K.lookup f=some ⟨oc,od,.func (PySem.W.fnOf name qual params body scope dV kV doc pm an aX ct),eQ⟩) (eO:PySem.W.codeIn K aX qual=true) (S:aa N ps scope)
  (len:∀vs H Q E,sp vs H Q E->vs.length=ps.length)
  (eR:∀(A:Around) (outer:List Env) (s:Shared) (H:Hp) (vs:List V) (Q:VK) (E:XK),aW k (A.deeper (envOfC qual scope s.heap.objs.size f aX))->sp vs H Q E ->
   ∃t,bY (dg CX P w K mg base N qual scope f aX A outer s H E) body t/\t { nx:=λ_ H'=>Q .non H',rt:=Q } (start N vs) H) :
  bp P w K mg base CX (k+1) f (PySem.W.fnOf name qual params body scope dV kV doc pm an aX ct) ps sp:=by
 refine ⟨len,λA outer s H args us vs Q E hr e0 hb r gG=>?_⟩
 have hl:=len _ _ _ _ gG
 have KX:K.In s.heap:=e0.mod.kin.keeps λb o e=>(e0.bs b o e).1
 have lim:s.heap.NoLimit:=e0.mod.nolimit.keeps λb o e=>(e0.bs b o e).1
 have sP:∀y∈ps.zip us,scope.names.lookup y.1=some .local\/(scope.names.lookup y.1=some .cell/\((cellsFrom (s.heap.objs.size+1) scope.names []).lookup y.1).isSome=true):=λ⟨n,v⟩ hy=>by
  rcases S.par n (List.of_mem_zip hy).1 with q|q
  ·exact .inl q
  ·exact .inr ⟨q,PySem.W.cellsFrom_some _ _ _ (.inl q)⟩
 refine codeAny_call_function hr.depth (KX _ _ lk) rfl S.co S.gen rfl (PySem.W.codeRec_of KX eO) (hb _ _ _ _ ?_)
 refine wpAny_newFunctionEnv_cells S.kind sP λenv he s1 x=>?_
 subst he
 refine ⟨lim.keeps x.toInCall.keep,codeAny_func ?_⟩
 obtain ⟨t,ht,hq⟩:=eR A outer s H vs Q E (hr.deeper _) gG
 have I:Inv (dg CX P w K mg base N qual scope f aX A outer s H E) [] (start N vs) H s1:=HV S hr.hd e0 hl r x
 refine yG (ht [] s1 (start N vs) H _ I hq) (λfl s' hs=>?_) λe s' hs=>hs
 have fin:∀{ai:St} {H':Hp} {v:V} {u:Value},Inv (dg CX P w K mg base N qual scope f aX A outer s H E) [] ai H' s'->RelV v u->Q v H'->CE outer P w H s Q u s' :=
  λ{ai H' v u} J rv q=>⟨v,H',J.os,J.bare,J.base,J.hok,rv,q⟩
 cases fl with
 | ret u =>
  obtain ⟨v,ai,H',J,rv,q⟩:=hs
  exact fin J rv q
 | next =>
  obtain ⟨ai,H',J,q⟩:=hs
  exact fin (v:=V.non) (u:=Value.none) J rfl q
 | brk =>
  obtain ⟨_,_,_,q⟩:=hs
  exact q.elim
 | cont =>
  obtain ⟨_,_,_,q⟩:=hs
  exact q.elim
section
variable {X:Cx}{x:Str}{p pos:Pos}{e:Expr}{es:List Expr}{t:TA}{id T:String}{r:List V->Hp->VK->Prop}
def Ax (r:List V->Hp->VK->Prop) (t:TA):TE:=λU H Q=>t U H λvs H1=>r vs H1 Q
def HW (hc:bQ X (.builtin id) r) (hg:Gl X x) (hm:X.mg x=none) (hv:bootBuiltins x=some (.builtin id)) (ha:PA X (e::es) t) (hn:x ≠ "__name__" := by decide) (bG:(x==("__debug__" : Str))=false:=by decide)
  (he:starEach (e::es) X.env=(false,eval e X.env)::starEach es X.env:=by rfl) (br:(backTo pos (starEach es X.env)).any (·.1)=false:=by rfl):PE X (.Call (.Name x p) (e::es) [] pos) (Ax r t):=by
 intro pins s U H Q I h
 refine wpAny_Call_Name_kw (iu I hg hm hv ?_ hn bG)
 exact PyProof.Rows.callWith_builtin1 (aU (ha pos pins s U H _ I h) λus s1 ⟨vs,H1,I1,r1,q1⟩=>hc pins s1 U H1 vs us Q I1 r1 q1) he br
def HX (hc:bQ X (.type T) r) (hg:Gl X x) (hm:X.mg x=none) (hv:bootBuiltins x=some (.type T)) (ha:PA X (e::es) t) (hn:x ≠ "__name__" := by decide) (bG:(x==("__debug__" : Str))=false:=by decide)
  (he:starEach (e::es) X.env=(false,eval e X.env)::starEach es X.env:=by rfl) (br:(backTo pos (starEach es X.env)).any (·.1)=false:=by rfl):PE X (.Call (.Name x p) (e::es) [] pos) (Ax r t):=by
 intro pins s U H Q I h
 refine wpAny_Call_Name_kw (iu I hg hm hv ?_ hn bG)
 exact PyProof.Rows.callWith_type1 (aU (ha pos pins s U H _ I h) λus s1 ⟨vs,H1,I1,r1,q1⟩=>hc pins s1 U H1 vs us Q I1 r1 q1) he br
end
end L2
namespace HT
open PySem PyProof.Rows
section
open PySem.SeqAt
open PySem.AutoSeq1 (wpAny_loadPart')
open PySem.MeetsSeq PySem.MeetsSeq2 PySem.MeetsSeq3
end
section
variable {prog:Program}{w:World}{A:Around}{E:Aa}{s:Shared}
def cat_tup {t b:Addr}{vs ws:Af}{Q:Aa}(ht:IsTup s.heap t vs.toArray) (hb:IsTup s.heap b ws.toArray) (hv:vs≠[])
  (h1:ws=[]->Q (.ref t) s) (h2:ws≠[]->Q (.ref s.heap.objs.size) { s with heap:=s.heap.push { cls:=.type "tuple", data:=.seq (vs++ws).toArray } })
  (hsz:vs.length+ws.length<=sizeLine):wpAny (model prog w) A (binaryOp .Add (.ref t) (.ref b)) Q E s:=by
 obtain ⟨⟨cls,dd,data,sl⟩,ho,hc,n,hd⟩:=id ht
 obtain ⟨⟨rV,ki,data2,fD⟩,ho2,f_,n2,hd2⟩:=id hb
 simp only at hc hd f_ hd2
 subst hc hd f_ hd2
 have e:vs.toArray++ws.toArray=(vs++ws).toArray:=by simp
 by_cases hw:ws=[]
 ·exact concat_meets ⟨_,ho,rfl⟩ ⟨_,ho2,rfl⟩ noFill_tuple_add seq_tuple_add PySem.F.slot_tuple_add PySem.F.entry_tuple_add (PySem.F.args_tuple_add_2 _ _)
   (tuple_addW1 t b vs.toArray ws.toArray n n2 dd ki sl fD (by simpa using hv) (by simp [hw])) ⟨ho,ho2,h1 hw⟩
 ·refine concat_meets ⟨_,ho,rfl⟩ ⟨_,ho2,rfl⟩ noFill_tuple_add seq_tuple_add PySem.F.slot_tuple_add PySem.F.entry_tuple_add (PySem.F.args_tuple_add_2 _ _)
   (tuple_addW2 t b vs.toArray ws.toArray n n2 dd ki sl fD (by simpa using hv) (by simpa using hw) (by rw [yV,yV];exact hsz)) ⟨ho,ho2,?_⟩
  rw [e]
  exact h2 hw
def sIx (n d:Nat):Option Int->Nat
 | none=>d
 | some v=>if v<0 then (v+(n:Int)).toNat else min v.toNat n
theorem HY (n d:Nat) (hd:d<=n) (o:Option Int):sIx n d o<=n:=by
 cases o with
 | none=>exact hd
 | some v =>
  show (if v<0 then (v+(n:Int)).toNat else min v.toNat n)<=n
  by_cases hv:v<0
  ·rw [zu hv];omega
  ·rw [zF hv];exact Nat.min_le_right _ _
theorem Ay (v:Int) (n d:Nat):(if v<0 then max (v+(n:Int)) 0 else min v (n:Int))=((sIx n d (some v):Nat):Int):=by
 show (if v<0 then max (v+(n:Int)) 0 else min v (n:Int))=(((if v<0 then (v+(n:Int)).toNat else min v.toNat n):Nat):Int)
 by_cases hv:v<0
 ·simp only [zu hv];omega
 ·simp only [zF hv];omega
theorem HZ (lo hi:Option Int) (n:Nat):Builtin.Slice.sliceAdjust lo hi 1 (n:Int)=(((sIx n 0 lo:Nat):Int),((sIx n n hi:Nat):Int)):=by
 have h1:¬((1:Int)<0):=by omega
 unfold Builtin.Slice.sliceAdjust
 simp only [h1,if_false]
 refine Prod.ext ?_ ?_
 ·cases lo with
  | none=>rfl
  | some v=>exact Ay v n 0
 ·cases hi with
  | none=>rfl
  | some v=>exact Ay v n n
theorem H8 (i j:Nat):Builtin.Slice.slicePlaces (i:Int) (j:Int) 1=j-i:=by
 unfold Builtin.Slice.slicePlaces
 have h1:(1:Int)>0:=by omega
 simp only [h1,wy,Int.ediv_one]
 split<;>omega
def Az {v:Value}{o:Option Int}{Q:Option Int->Shared->Prop}(p:IsPart v o) (h:Q o s):wpAny (model prog w) A (Builtin.Slice.slicePartIndex v) Q E s:=by
 cases p with
 | none=>exact slicePart_none h
 | int i t=>exact slicePart_int h
def AA {sl:Addr}{vl vu:Value}{lo hi:Option Int}{n:Nat}{Q:Int×Int×Nat->Shared->Prop}(hs:s.heap.IsSliceOf sl vl vu .none) (pl:IsPart vl lo) (pu:IsPart vu hi)
  (h:Q (((sIx n 0 lo:Nat):Int),1,sIx n n hi-sIx n 0 lo) s):wpAny (model prog w) A (Builtin.Slice.sliceApplied (.ref sl) (pure (n:Int))) Q E s:=by
 obtain ⟨os,kj,p8,nI⟩:=id hs
 unfold Builtin.Slice.sliceApplied Builtin.Slice.sliceFields
 refine zp (zp (y9 kj nI (x:=vl) rfl (zp (y9 kj nI (x:=vu) rfl (zp (y9 kj nI (x:=.none) rfl (zK ?_)))))))
 refine zp (slicePart_none ?_)
 show wpAny _ _ (if ((1:Int)==0)=true then _ else _) _ _ s
 rw [zF (by decide)]
 refine zp (Az pl (zp (Az pu (zp (zK ?_)))))
 show wpAny _ _ (match Builtin.Slice.sliceAdjust lo hi 1 (n:Int) with|(lo,hi)=>pure (lo,(1:Int),Builtin.Slice.slicePlaces lo hi 1)) _ _ s
 rw [HZ lo hi n]
 show wpAny _ _ (pure (((sIx n 0 lo:Nat):Int),(1:Int),Builtin.Slice.slicePlaces ((sIx n 0 lo:Nat):Int) ((sIx n n hi:Nat):Int) 1)) _ _ s
 rw [H8]
 exact zK h
theorem H9 (xs:Array Value) (i k:Nat):((List.range k).filterMap λ(m:Nat)=>xs[((i:Int)+(m:Int)*1).toNat]?).toArray=((xs.toList.drop i).take k).toArray:=by
 have e:(λ(m:Nat)=>xs[((i:Int)+(m:Int)*1).toNat]?)=λm=>xs[i+m]?:=by
  funext m
  have:((i:Int)+(m:Int)*1).toNat=i+m:=by omega
  rw [this]
 rw [e]
 have:=pick_run xs i k
 rw [List.filterMap_map] at this
 have e2:((λx=>xs[x]?)∘λx=>i+x)=λm=>xs[i+m]?:=rfl
 rw [e2] at this
 rw [this]
theorem getItem_tuple_cut {t sl:Addr}{items:Array Value}{vl vu:Value}{lo hi:Option Int}{Q:Aa}(ht:IsTup s.heap t items) (hs:s.heap.IsSliceOf sl vl vu .none) (pl:IsPart vl lo) (pu:IsPart vu hi)
  (hw:¬(sIx items.size 0 lo=0/\sIx items.size items.size hi=items.size))
  (h:Q (.ref s.heap.objs.size) { s with heap:=s.heap.push { cls:=.type "tuple", data:=.seq ((items.toList.drop (sIx items.size 0 lo)).take (sIx items.size items.size hi-sIx items.size 0 lo)).toArray } })
  (hsz:items.size<=sizeLine):wpAny (model prog w) A (getItem (.ref t) (.ref sl)) Q E s:=by
 have gX:sizeOk (.seq ((items.toList.drop (sIx items.size 0 lo)).take (sIx items.size items.size hi-sIx items.size 0 lo)).toArray):=by
  show ((items.toList.drop (sIx items.size 0 lo)).take (sIx items.size items.size hi-sIx items.size 0 lo)).toArray.size<=sizeLine
  rw [yV,List.length_take,List.length_drop,Array.length_toList]
  omega
 have hj:sIx items.size items.size hi<=items.size:=HY _ _ (yd _) hi
 obtain ⟨os,kj,p8,nI⟩:=id hs
 have sQ:s.TypeIs (.ref sl) "slice" := ⟨os,kj,p8⟩
 unfold getItem
 try with_reducible refine jN ?_
 first|refine zp (zK ?_)|skip
 refine zp (wpAny_sequenceKey ht.typeIs (by decide) ?_)
 refine zp (wpAny_callSpecial?_slot (name:=Str.ofString "__getitem__") ht.typeIs PyProof.Rows.slot_tuple_getitem
  (jX PyProof.Rows.slot_tuple_getitem ht.typeIs entry_tuple_getitem ?_ (args_tuple_getitem _ _)))
 show wpAny _ _ (Builtin.Tuple.tupleItemsOf (.ref t) >>= _) _ _ s
 refine zp (tupleItemsOf_ ht ?_)
 refine zp (wpAny_typeOf sQ ?_)
 rw [zu (by decide)]
 refine zp (AA hs pl pu ?_)
 have H_:¬((((sIx items.size 0 lo:Nat):Int)==0&&(1:Int)==1&&(sIx items.size items.size hi-sIx items.size 0 lo)==items.size)=true):=by
  intro q
  rw [j9,j9] at q
  have q1:((sIx items.size 0 lo:Nat):Int)=0:=eq_of_beq q.1.1
  have q2:sIx items.size items.size hi-sIx items.size 0 lo=items.size:=eq_of_beq q.2
  exact hw ⟨by omega,by omega⟩
 show wpAny _ _ (if (((sIx items.size 0 lo:Nat):Int)==0&&(1:Int)==1&&(sIx items.size items.size hi-sIx items.size 0 lo)==items.size)=true then _ else _) _ _ s
 rw [zF H_,H9]
 first
  | exact zp (m:=Builtin.Tuple.tupleExact _) (wO (zK ⟨_,rfl,zK h⟩) gX)
  | exact zp (m:=Builtin.Tuple.tupleExact _) (wO (zp (zK (zK ⟨_,rfl,zK h⟩))) gX)
  | exact zp (zp (m:=Builtin.Tuple.tupleExact _) (wO (zK (zK ⟨_,rfl,zK h⟩)) gX))
  | exact zp (zp (m:=Builtin.Tuple.tupleExact _) (wO (zK ⟨_,rfl,zK h⟩) gX))
end
end HT
namespace L2
open PySem PySem.Spec PyProof.Rows
abbrev TO:=St->Hp->(Option Int->Hp->Prop)->Prop
def PO (X:Cx) (e:Option Expr) (t:TO):Prop :=
 ∀(pins:Ac) (s:Shared) (U:St) (H:Hp) (Q:Option Int->Hp->Prop),Inv X pins U H s->t U H Q ->
  wpAny (model X.prog X.w) X.A (evalPart e X.env) (λu s'=>∃o H',Inv X pins U H' s'/\IsPart u o/\Q o H') X.xe s
def Ia:TO:=λ_ H Q=>Q none H
def Ib (t:TE):TO:=λU H Q=>t U H λx H1=>∃i,x=.int i/\Q (some i) H1
section
variable {X:Cx}{e:Expr}{te:TE}{lo hi:Option Expr}{tl th:TO}{pos p2:Pos}
def Ic:PO X none Ia:=by
 intro pins s U H Q I h
 rw [evalPart_none]
 exact zK ⟨none,H,I,.none,h⟩
def Ie (h:PE X e te):PO X (some e) (Ib te):=by
 intro pins s U H Q I hw
 rw [evalPart_some]
 refine aU (h pins s U H _ I hw) λu s1 ⟨x,H1,I1,r1,q1⟩=>?_
 obtain ⟨i,rfl,q⟩:=q1
 obtain ⟨t,rfl⟩:=r1
 exact ⟨some i,H1,I1,.int i t,q⟩
def gY (X:Cx) (r:V->Option Int->Option Int->Hp->VK->Prop):Prop :=
 ∀(pins:Ac) (s:Shared) (U:St) (H:Hp) (x:V) (v vl vu:Value) (lo hi:Option Int) (sl:Addr) (Q:VK),Inv X pins U H s->RelV x v->s.heap.IsSliceOf sl vl vu .none->IsPart vl lo->IsPart vu hi->r x lo hi H Q ->
  ∃T id,typeLookup (.type T) "__getitem__" = pure (some (.builtin id))/\s.TypeIs v T/\wpAny (model X.prog X.w) X.A (getItem v (.ref sl)) (EP X pins U Q) X.xe s
def gY.or {r r':V->Option Int->Option Int->Hp->VK->Prop}(h:gY X r) (h':gY X r'):gY X (λx lo hi H Q=>r x lo hi H Q\/r' x lo hi H Q):=by
 intro pins s U H x v vl vu lo hi sl Q I rx hs pl pu q
 rcases q with q|q
 ·exact h pins s U H x v vl vu lo hi sl Q I rx hs pl pu q
 ·exact h' pins s U H x v vl vu lo hi sl Q I rx hs pl pu q
def Ig (r:V->Option Int->Option Int->Hp->VK->Prop) (te:TE) (tl th:TO):TE:=λU H Q=>te U H λx H1=>tl U H1 λl H2=>th U H2 λu H3=>r x l u H3 Q
def Ih {r:V->Option Int->Option Int->Hp->VK->Prop}(hr:gY X r) (he:PE X e te) (hl:PO X lo tl) (hu:PO X hi th):PE X (.Subscript e (.Slice lo hi none p2) pos) (Ig r te tl th):=by
 intro pins s U H Q I h
 refine Subscript_ (aU (he pins s U H _ I h) λv s1 ⟨x,H1,I1,r1,q1⟩=>?_)
 refine wpAny_Slice (aU (hl pins s1 U H1 _ I1 q1) λvl s2 ⟨l,H2,I2,pl,q2⟩=>aU (hu pins s2 U H2 _ I2 q2) λvu s3 ⟨u,H3,I3,pu,q3⟩=>?_)
 rw [evalPart_none]
 refine zK ?_
 have I4:Inv X pins U H3 { s3 with heap:=s3.heap.push { cls:=.type "slice", data:=.fields #[vl,vu,.none] } }:=I3.kept (t':=s3.toks) λb ob q=>zZ _ q
 obtain ⟨T,id,hT,ht,hg⟩:=hr pins { s3 with heap:=s3.heap.push { cls:=.type "slice", data:=.fields #[vl,vu,.none] } } U H3 x v vl vu l u s3.heap.objs.size Q I4 r1 (Heap.IsSliceOf.new ..) pl pu q3
 show wpAny (model X.prog X.w) X.A (subscriptTail e (.Slice lo hi none p2) v (.ref s3.heap.objs.size)) (EP X pins U Q) X.xe { s3 with heap:=s3.heap.push { cls:=.type "slice", data:=.fields #[vl,vu,.none] } }
 exact tail_any (ops:=[.ref s3.heap.objs.size,v]) ht hT hg (by with_unfolding_all rfl)
def fO (xs:List V) (lo hi:Option Int):List V:=(xs.drop (HT.sIx xs.length 0 lo)).take (HT.sIx xs.length xs.length hi-HT.sIx xs.length 0 lo)
theorem AB (xs:List V) (lo hi:Option Int):(fO xs lo hi).length<=xs.length:=by
 unfold fO
 rw [List.length_take,List.length_drop]
 omega
def Ii (K:PySem.W.Frag):V->Option Int->Option Int->Hp->VK->Prop:=λx lo hi H Q=>∃a xs,x=.ref a/\bg K H a xs /\
 ¬(HT.sIx xs.length 0 lo=0/\HT.sIx xs.length xs.length hi=xs.length)/\∀p,H p=none->Q (.ref p) (upd H p (.tup (fO xs lo hi)))
def Ij:gY X (Ii X.K):=by
 intro pins s U H x v vl vu lo hi sl Q I rx hs pl pu h
 obtain ⟨a,xs,rfl,hx,hw,q⟩:=h
 cases rx
 obtain ⟨its,r,ht,hz⟩:=I.tuple hx
 have hlen:its.toArray.size=xs.length:=by rw [yV];exact r.length.symm
 refine ⟨"tuple", _,PyProof.Rows.slot_tuple_getitem.lookup,ht.typeIs,?_⟩
 refine HT.getItem_tuple_cut ht hs pl pu (by rw [hlen];exact hw) ?_ (by rw [hlen];exact hz)
 rw [hlen]
 refine ⟨.ref s.heap.objs.size,_,I.laid (t':=s.toks) (o:=.tup (fO xs lo hi)) (λb ob q=>zZ _ q) (yd _) ?_,rfl,q _ (I.hok.fresh (yd _))⟩
 exact ⟨y6 (AB xs lo hi) hz,_,(r.drop (HT.sIx xs.length 0 lo)).take (HT.sIx xs.length xs.length hi-HT.sIx xs.length 0 lo),IsTup.new _ _⟩
def Ik (K:PySem.W.Frag):R2:=λx y H Q=>∃a b xs ys,x=.ref a/\y=.ref b/\bg K H a xs/\bg K H b ys/\xs≠[]/\xs.length+ys.length<=sizeLine /\
 (ys=[]->Q (.ref a) H)/\(ys≠[]->∀p,H p=none->Q (.ref p) (upd H p (.tup (xs++ys))))
def Vals.nil_iff {xs:List V}{us:Af}(r:Vals xs us):us=[]↔xs=[]:=by
 cases r with
 | nil=>simp
 | cons _ _=>simp
def Il:ba X (binaryOp .Add) (Ik X.K):=by
 intro pins s U H x y v u Q I rx ry h
 obtain ⟨a,b,xs,ys,rfl,rfl,ha,hb,hx,hz,q1,q2⟩:=h
 cases rx
 cases ry
 obtain ⟨its,r1,p1,_⟩:=I.tuple ha
 obtain ⟨aV,r2,p2,_⟩:=I.tuple hb
 refine HT.cat_tup p1 p2 (λz=>hx (r1.nil_iff.mp z)) (λz=>⟨.ref a,H,I,rfl,q1 (r2.nil_iff.mp z)⟩) (λz=>?_) (by rw [<-r1.length,<-r2.length];exact hz)
 refine ⟨.ref s.heap.objs.size,_,I.laid (t':=s.toks) (o:=.tup (xs++ys)) (λb ob q=>zZ _ q) (yd _) ?_,rfl,q2 (λw=>z (r2.nil_iff.mpr w)) _ (I.hok.fresh (yd _))⟩
 exact ⟨by rw [ig];exact hz,_,r1.append r2,IsTup.new _ _⟩
end
def kl (n:Nat) (i:Int):Option Nat:=if 0<=i then (if i<n then some i.toNat else none) else if -(n:Int)<=i then some (i+n).toNat else none
def c7 {α:Type}(xs:List α) (i:Int):Option α:=(kl xs.length i).bind λj=>xs[j]?
theorem Im {n:Nat}{i:Int}{j:Nat}(h:kl n i=some j):seqIndex? i n=some j/\j<n /\ -(n:Int)<=i/\i<n:=by
 unfold kl at h
 by_cases h0:0<=i
 ·rw [zu h0] at h
  by_cases h1:i<n
  ·rw [zu h1] at h
   have e:i.toNat=j:=Option.some.inj h
   exact ⟨by rw [seqIndex_of h0 h1,e],by omega,by omega,h1⟩
  ·rw [zF h1] at h;cases h
 ·rw [zF h0] at h
  by_cases h1 : -(n:Int)<=i
  ·rw [zu h1] at h
   have e:(i+n).toNat=j:=Option.some.inj h
   exact ⟨by rw [seqIndex_neg (by omega) h1,e],by omega,h1,by omega⟩
  ·rw [zF h1] at h;cases h
def bH {α:Type}{xs:List α}{i:Int}{v:α}(h:c7 xs i=some v):∃j,seqIndex? i xs.length=some j/\xs[j]?=some v/\j<xs.length /\ -(xs.length:Int)<=i/\i<xs.length:=by
 unfold c7 at h
 cases e:kl xs.length i with
 | none=>rw [e] at h;cases h
 | some j =>
  rw [e] at h
  obtain ⟨h1,h2,h3,h4⟩:=Im e
  exact ⟨j,h1,h,h2,h3,h4⟩
def eU (b:Expr):Prop:=∀o i,subscripted b false o i=operate [o,i] (getItem o i)
def eV (X:Cx) (r:R2):Prop :=
 ∀(value slice:Expr) (pins:Ac) (s:Shared) (U:St) (H:Hp) (x y:V) (v u:Value) (Q:VK),Inv X pins U H s->RelV x v->RelV y u->r x y H Q ->
  subscripted slice false v u=operate [v,u] (getItem v u)->wpAny (model X.prog X.w) X.A (subscriptTail value slice v u) (EP X pins U Q) X.xe s
def AD (X:Cx) (id:String) (r:V->List V->Hp->VK->Prop):Prop :=
 ∀(pins:Ac) (s:Shared) (U:St) (H:Hp) (x:V) (xs:List V) (v:Value) (us:Af) (Q:VK),Inv X pins U H s->RelV x v->Vals xs us->r x xs H Q ->
  wpAny (model X.prog X.w) X.A (call (.builtin id) (v::us)) (EP X pins U Q) X.xe s
section
variable {X:Cx}{a b:Expr}{ta tb:TE}{pos:Pos}
def eV.or {r r':R2}(h:eV X r) (h':eV X r'):eV X (λx y H Q=>r x y H Q\/r' x y H Q):=by
 intro value slice pins s U H x y v u Q I rx ry q hs
 rcases q with q|q
 ·exact h value slice pins s U H x y v u Q I rx ry q hs
 ·exact h' value slice pins s U H x y v u Q I rx ry q hs
def AE {r:R2}(hr:eV X r) (ha:PE X a ta) (hb:PE X b tb) (hs:eU b):PE X (.Subscript a b pos) (nF r ta tb):=by
 intro pins s U H Q I h
 exact Subscript_ (nG ha hb I h λv u s2 x y H2 I2 rx ry q=>hr a b pins s2 U H2 x y v u Q I2 rx ry q (hs _ _))
def AF (K:PySem.W.Frag):R2:=λx y H Q=>∃p xs i v,x=.ref p/\y=.int i/\bo K H p xs/\c7 xs i=some v/\Q v H
def AG (K:PySem.W.Frag):R2:=λx y H Q=>∃p xs i v,x=.ref p/\y=.int i/\bg K H p xs/\c7 xs i=some v/\Q v H
def AH:R2:=λx y H Q=>∃z i c,x=.str z/\y=.int i/\z.length<=sizeLine/\c7 z.cps.toList i=some c/\Q (.str ⟨#[c]⟩) H
theorem Io:eV X (AF X.K):=by
 intro value slice pins s U H x y v u Q I rx ry h hs
 obtain ⟨p,xs,i,z,rfl,rfl,hq,he,q⟩:=h
 cases rx
 obtain ⟨t,rfl⟩:=ry
 obtain ⟨its,r,pl,hz⟩:=I.list hq
 obtain ⟨j,h1,h2,h3,h4,h5⟩:=bH he
 obtain ⟨w,ew,c9⟩:=r.get h2
 have hl:=r.length
 have hn:=pX
 have fin:EP X pins U Q w s:=⟨z,H,I,c9,q⟩
 by_cases h0:0<=i
 ·have hj:i.toNat=j:=by
   rw [seqIndex_of h0 h5] at h1
   exact Option.some.inj h1
  exact item_listR pl.isList h0 (by omega) (by rw [hj];simpa using ew) fin hs
 ·have hj:(i+(its.toArray.size:Int)).toNat=j:=by
   rw [seqIndex_neg (by omega) h4] at h1
   rw [yV,<-hl]
   exact Option.some.inj h1
  exact subscriptTail_builtinR (x:=w) pl.isList.typeIs slot_list_getitem.lookup
   (wpAny_getItem_list_neg (Q:=λr s'=>r=w/\EP X pins U Q r s') pl.isList (by omega) (by rw [yV]<;>omega) (by omega) (by rw [hj];simpa using ew) ⟨rfl,fin⟩) hs
theorem Ip:eV X (AG X.K):=by
 intro value slice pins s U H x y v u Q I rx ry h hs
 obtain ⟨p,xs,i,z,rfl,rfl,hq,he,q⟩:=h
 cases rx
 obtain ⟨t,rfl⟩:=ry
 obtain ⟨its,r,pl,hz⟩:=I.tuple hq
 obtain ⟨j,h1,h2,h3,h4,h5⟩:=bH he
 obtain ⟨w,ew,c9⟩:=r.get h2
 have hl:=r.length
 have hn:=pX
 have fin:EP X pins U Q w s:=⟨z,H,I,c9,q⟩
 exact subscriptTail_builtinR (x:=w) pl.typeIs slot_tuple_getitem.lookup
  (getItem_tuple (j:=j) (Q:=λr s'=>r=w/\EP X pins U Q r s') pl (by omega) (by omega) (by rw [yV,<-hl];exact h1) (by simpa using ew) ⟨rfl,fin⟩) hs
theorem Iq:eV X AH:=by
 intro value slice pins s U H x y v u Q I rx ry h hs
 obtain ⟨z,i,c,rfl,rfl,hz,he,q⟩:=h
 obtain ⟨t,rfl⟩:=rx
 obtain ⟨t',rfl⟩:=ry
 obtain ⟨j,h1,h2,h3,h4,h5⟩:=bH he
 have hl:z.cps.toList.length=z.length:=by simp [Str.length]
 rw [hl] at h1 h4 h5
 have hn:=pX
 exact tail_any (typeIs_str s z t) slot_str_getitem.lookup (getItem_str (c:=c) (by
  have e1:decide (i < -(2 ^ 63:Int))=false:=jR (by omega)
  have e2:decide (i>=2 ^ 63)=false:=jR (by omega)
  rw [e1,e2,Bool.or_false]) (by rw [h1];simpa using h2) ⟨.str ⟨#[c]⟩,H,I.tok _,⟨_,rfl⟩,q⟩) hs
def Ir (K:PySem.W.Frag):R2:=λx y H Q=>AF K x y H Q\/AG K x y H Q\/AH x y H Q
def Iu:eV X (Ir X.K):=Io.or (Ip.or Iq)
def Inv.lst {pins:Ac}{U:St}{H:Hp}{s:Shared}{p:Addr}{xs:List V}(I:Inv X pins U H s) (h:H p=some (.lst xs)) :
  ∃(its:Af) (n:Nat),Vals xs its/\s.heap.get? p=some { cls:=.type "list", data:=.seq its.toArray n }/\xs.length<=sizeLine:=by
 obtain ⟨z,its,n,r,e⟩:=I.hok p _ h
 exact ⟨its,n,r,e,z⟩
theorem Iv (lo hi:Option Int) (n:Nat):(sliceBounds lo hi none n).1=((HT.sIx n 0 lo:Nat):Int)/\(sliceBounds lo hi none n).2.1=((HT.sIx n n hi:Nat):Int)/\(sliceBounds lo hi none n).2.2=1:=by
 refine ⟨?_,?_,rfl⟩
 ·cases lo with
  | none=>simp [sliceBounds,HT.sIx]
  | some i =>
   simp only [sliceBounds,HT.sIx,Option.getD_none,show (1:Int)>0 by decide,wy]
   by_cases h:i<0
   ·simp only [h,wy]<;>omega
   ·simp only [h,if_false]<;>omega
 ·cases hi with
  | none=>simp [sliceBounds,HT.sIx]
  | some i =>
   simp only [sliceBounds,HT.sIx,Option.getD_none,show (1:Int)>0 by decide,wy]
   by_cases h:i<0
   ·simp only [h,wy]<;>omega
   ·simp only [h,if_false]<;>omega
def Iw (its:Af) (lo hi:Option Int):slicePick its.toArray lo hi none=((its.drop (HT.sIx its.length 0 lo)).take (HT.sIx its.length its.length hi-HT.sIx its.length 0 lo)).toArray:=by
 obtain ⟨h1,h2,h3⟩:=Iv lo hi its.toArray.size
 unfold slicePick
 rw [h1,h2,h3]
 simp only [sliceRange_one,pick_run,yV]<;>rfl
def Iy (K:PySem.W.Frag):V->Option Int->Option Int->Hp->VK->Prop:=λx lo hi H Q=>∃a xs,x=.ref a/\bo K H a xs/\∀p,H p=none->Q (.ref p) (upd H p (.lst (fO xs lo hi)))
theorem Iz:gY X (Iy X.K):=by
 intro pins s U H x v vl vu lo hi sl Q I rx hs pl pu h
 obtain ⟨a,xs,rfl,hx,q⟩:=h
 cases rx
 obtain ⟨its,r,ht,hz⟩:=I.list hx
 have hlen:=r.length
 refine ⟨"list", _,slot_list_getitem.lookup,ht.isList.typeIs,?_⟩
 refine wpAny_getItem_list_slice ht.isList hs pl pu .none (by simp) ?_ (by rw [yV]<;>omega)
 rw [Iw,<-hlen]
 refine ⟨.ref s.heap.objs.size,_,I.laid (t':=s.toks) (o:=.lst (fO xs lo hi)) (λb ob q=>zZ _ q) (yd _) ?_,rfl,q _ (I.hok.fresh (yd _))⟩
 exact ⟨y6 (AB xs lo hi) hz,_,0,(r.drop (HT.sIx xs.length 0 lo)).take (HT.sIx xs.length xs.length hi-HT.sIx xs.length 0 lo),yP _ rfl⟩
def znU:ba X (compareOp .NotIn) (λx y H Q=>∃i j,x=.str i/\y=.str j/\Q (.bl (!(!(Builtin.Str.occurrences j i 0 j.length 1).isEmpty))) H):=by
 intro pins s U H x y v u Q I rx ry h
 obtain ⟨i,j,rfl,rfl,q⟩:=h
 obtain ⟨t,rfl⟩:=rx
 obtain ⟨t',rfl⟩:=ry
 exact notIn_str ⟨.bl _,H,I,rfl,q⟩
def bQ.or {f:Value}{r r':List V->Hp->VK->Prop}(h:bQ X f r) (h':bQ X f r'):bQ X f (λxs H Q=>r xs H Q\/r' xs H Q):=by
 intro pins s U H xs us Q I rs q
 rcases q with q|q
 ·exact h pins s U H xs us Q I rs q
 ·exact h' pins s U H xs us Q I rs q
def IA:bQ X (.type "list") (λxs H Q=>∃p ys,xs=[.ref p]/\(bo X.K H p ys\/bg X.K H p ys)/\∀l,H l=none->Q (.ref l) (upd H l (.lst ys))):=by
 intro pins s U H xs us Q I r h
 obtain ⟨p,ys,rfl,hq,q⟩:=h
 obtain ⟨u,rfl,rx⟩:=iA r
 cases rx
 have fin:∀(its:Af),Vals ys its->ys.length<=sizeLine->∀(h':Heap) (c':Nat),(∀b o',s.heap.get? b=some o'->h'.get? b=some o') ->
   h'.get? s.heap.objs.size=some { cls:=.type "list", dict:=none,data:=.seq its.toArray c',slots:=#[] }->EP X pins U Q (.ref s.heap.objs.size) { s with heap:=h' }:=λits r' hz h' c' kp e =>
  ⟨.ref s.heap.objs.size,_,I.laid (t':=s.toks) kp (yd _) (show aZ X.prog X.w _ h' _ (.lst ys) from ⟨hz,its,c',r',e⟩),rfl,q _ (I.hok.fresh (yd _))⟩
 rcases hq with hq|hq
 ·obtain ⟨its,r',pl,hz⟩:=I.list hq
  have hlen:=r'.length
  obtain ⟨o,ho,hc,n,hd⟩:=pl.isList
  exact call_list_seq p (.inl rfl) ho hc hd (λh' c' kp e=>fin its r' hz h' c' kp e) (by simp only [yV]<;>omega)
 ·obtain ⟨its,r',pl,hz⟩:=I.tuple hq
  have hlen:=r'.length
  obtain ⟨o,ho,hc,n,hd⟩:=pl
  exact call_list_seq p (.inr rfl) ho hc hd (λh' c' kp e=>fin its r' hz h' c' kp e) (by simp only [yV]<;>omega)
def IB:bQ X (.type "tuple") (λxs H Q=>∃p ys,xs=[.ref p]/\((bo X.K H p ys/\∀l,H l=none->Q (.ref l) (upd H l (.tup ys)))\/(bg X.K H p ys/\Q (.ref p) H))):=by
 intro pins s U H xs us Q I r h
 obtain ⟨p,ys,rfl,h⟩:=h
 obtain ⟨u,rfl,rx⟩:=iA r
 cases rx
 rcases h with ⟨hq,q⟩|⟨hq,q⟩
 ·obtain ⟨its,r',pl,hz⟩:=I.list hq
  have hlen:=r'.length
  refine call_tuple_list pl.isList (λh' kp=>?_) (by simp only [yV]<;>omega)
  have I1:Inv X pins U H { s with heap:=h' }:=I.kept (t':=s.toks) kp
  have I2:Inv X pins U (upd H h'.objs.size (.tup ys)) { s with heap:=h'.push { cls:=.type "tuple", data:=.seq its.toArray } } :=
   I1.laid (t':=s.toks) (λb o e=>zZ _ e) (yd _) (show aZ X.prog X.w _ _ _ (.tup ys) from ⟨hz,its,r',IsTup.new _ _⟩)
  exact ⟨.ref h'.objs.size,_,I2,rfl,q _ (I1.hok.fresh (yd _))⟩
 ·obtain ⟨its,r',pl,hz⟩:=I.tuple hq
  exact call_tuple_same pl ⟨.ref p,H,I,rfl,q⟩
def AI (K:PySem.W.Frag) (T:String) (x:V) (H:Hp):Prop:=match x with
 | .str _=>T = "str"
 | .int _=>T = "int"
 | .ref p=>(T = "list" /\ ∃xs,bo K H p xs)\/(T = "tuple" /\ ∃o,K.lookup p=some o/\o.cls=.type "tuple" /\ o.dict=none) \/
   (T = "dict" /\ ((∃kvs,H p=some (.dK kvs))\/∃kvs,H p=some (.dT kvs)))\/(T = "set" /\ ∃S n,H p=some (.set S n))
 | _=>False
def sR {pins:Ac}{U:St}{H:Hp}{s:Shared}{T:String}{x:V}{v:Value}(I:Inv X pins U H s) (r:RelV x v) (ty:AI X.K T x H) :
  s.TypeIs v T/\∀a,v=.ref a->∃ob,s.heap.get? a=some ob/\ob.dict=none:=by
 cases x with
 | str z =>
  obtain ⟨t,rfl⟩:=r
  cases (show T = "str" from ty)
  exact ⟨typeIs_str s z t,λ_ e=>nomatch e⟩
 | int i =>
  obtain ⟨t,rfl⟩:=r
  cases (show T = "int" from ty)
  exact ⟨typeIs_int s i t,λ_ e=>nomatch e⟩
 | ref p =>
  cases r
  rcases ty with ⟨rfl,xs,hq⟩|⟨rfl,o,hk,hc,hd⟩|⟨rfl,hk⟩|⟨rfl,S,n,hk⟩
  ·obtain ⟨its,_,pl,_⟩:=I.list hq
   refine ⟨pl.isList.typeIs,λa e=>?_⟩
   cases e
   obtain ⟨o,n,e,c,hd,_⟩:=pl
   exact ⟨o,e,hd⟩
  ·refine ⟨⟨o,I.kIn p o hk,hc⟩,λa e=>?_⟩
   cases e
   exact ⟨o,I.kIn _ o hk,hd⟩
  ·have z:∃o,s.heap.get? p=some o/\o.ExactDict:=by
    rcases hk with ⟨kvs,hk⟩|⟨kvs,hk⟩
    ·obtain ⟨_,_,_,_,o,_,_,e,ex,_⟩:=I.hok p _ hk
     exact ⟨o,e,ex⟩
    ·obtain ⟨_,_,_,_,o,_,_,e,ex,_⟩:=I.hok p _ hk
     exact ⟨o,e,ex⟩
   obtain ⟨o,e,ex⟩:=z
   refine ⟨⟨o,e,ex.1⟩,λa e2=>?_⟩
   cases e2
   exact ⟨o,e,ex.2.1⟩
  ·obtain ⟨o,_,_,_,e,ex,_⟩:=I.hok p _ hk
   refine ⟨⟨o,e,ex.1⟩,λa e2=>?_⟩
   cases e2
   exact ⟨o,e,ex.2.1⟩
 | _=>exact ty.elim
def IC (K:PySem.W.Frag) (T:String) (r:V->List V->Hp->VK->Prop) (to:TE) (t:TA):TE:=λU H Q=>to U H λx H1=>AI K T x H1/\t U H1 λxs H2=>r x xs H2 Q
variable {o e:Expr}{es:List Expr}{to:TE}{t:TA}{name:Str}{apos a0:Pos}{T id:String}{r:V->List V->Hp->VK->Prop}
def sS (pa:PlainAttrs T) (slot:Slot T name id) (mf:typeOf (.builtin id)=pure (.type "method_descriptor")) (hm:AD X id r) (ho:PE X o to) (ha:PA X (e::es) t)
  (bI:attributeBase o name X.env (eval o X.env)=eval o X.env:=by rfl)
  (gd:((backTo a0 (starEach (e::es) X.env)).all (λx=>!x.1)&&(backToKw a0 (keywordEach [] X.env)).all (λx=>x.1.isSome)
   && decide ((e::es).length+([]:List Keyword).length+(if ([]:List Keyword).isEmpty then 0 else 1)<30))=true:=by rfl)
  (cP:(apos.endLine==a0.line)=true:=by rfl) (hs:starEach (e::es) X.env=(false,eval e X.env)::starEach es X.env:=by rfl) (p9:(backTo a0 (starEach es X.env)).any (·.1)=false:=by rfl) :
  PE X (.Call (.Attribute o name apos) (e::es) [] a0) (IC X.K T r to t):=by
 intro pins s U H Q I h
 refine wpAny_Call_method_late bI gd cP rfl (aU (ho pins s U H _ I h) λv s1 ⟨x,H1,I1,r1,ty,q1⟩=>?_)
 obtain ⟨h1,h2⟩:=sR I1 r1 ty
 refine ⟨T,id,pa,slot,mf,h1,h2,?_⟩
 have hA:=ha a0 pins s1 U H1 _ I1 q1
 rw [hs] at hA ⊢
 refine Calls.callWith_builtin (by show (false||(backTo a0 (starEach es X.env)).any (·.1))=false;rw [p9]<;>rfl) (Calls.evalArgs_plain ?_)
 exact aU hA λus s2 ⟨vs,H2,I2,r2,q2⟩=>hm pins s2 U H2 x vs v us Q I2 r1 r2 q2
end
def AJ (X:Cx) (id:String) (r:V->List V->Hp->VK->Prop):Prop :=
 ∀(pins:Ac) (s:Shared) (U:St) (H:Hp) (x:V) (xs:List V) (v:Value) (us:Af) (Q:VK),Inv X pins U H s->RelV x v->Vals xs us->r x xs H Q ->
  wpAny (model X.prog X.w) X.A (call (.builtin id) (v::us)) (EP X pins U Q) X.xe s
def Vals.one:∀{x:V}{us:Af},Vals [x] us->∃u,us=[u]/\RelV x u
 | _,_,.cons r .nil=>⟨_,rfl,r⟩
def Vals.reverse {xs:List V}{us:Af}(h:Vals xs us):Vals xs.reverse us.reverse:=by
 induction h with
 | nil=>exact .nil
 | cons r t ih=>rw [List.reverse_cons,List.reverse_cons];exact Vals.append ih (.cons r .nil)
section
variable {X:Cx}{pins:Ac}{U:St}{H:Hp}{s:Shared}{l b:Addr}{xs ys zs:List V}
def Inv.lset {its its':Af}{n:Nat}{f:Array Value->Array Value}{t':Nat}(I:Inv X pins U H s) (hH:H l=some (.lst xs))
  (e:s.heap.get? l=some { cls:=.type "list", data:=.seq its.toArray n }) (hf:f its.toArray=its'.toArray) (hv:Vals ys its') (hz:ys.length<=sizeLine) :
  Inv X pins U (upd H l (.lst ys)) { s with heap:=s.heap.update l (Obj.mapSeq f),toks:=t' }:=by
 have q:=PySem.IsL.update e f
 rw [hf] at q
 refine I.write (x:=l) (e:=l) (by rw [hH];exact trivial) (.inl rfl) (λb' u hb hu=>(j8 s.heap (Obj.mapSeq f) (yD hb)).trans hu) ⟨_,q⟩ ?_
 exact ⟨hz,its',_,hv,q⟩
def Inv.lnew {its:Af}{t':Nat}(I:Inv X pins U H s) (hv:Vals ys its) (hz:ys.length<=sizeLine) :
  Inv X pins U (upd H s.heap.objs.size (.lst ys)) { s with heap:=s.heap.push { cls:=.type "list", data:=.seq its.toArray },toks:=t' } :=
 I.laid (λ_ _ q=>zZ _ q) (yd _) ⟨hz,its,0,hv,yP _ rfl⟩
def Inv.fresh (I:Inv X pins U H s):H s.heap.objs.size=none:=I.hok.fresh (yd _)
def Inv.lstM (I:Inv X pins U H s) (hH:H l=some (.lst xs)):xs.length<=sizeLine/\∃(its:Af) (n:Nat),Vals xs its/\xs.length=its.length/\s.heap.get? l=some { cls:=.type "list", data:=.seq its.toArray n }:=by
 obtain ⟨z,its,n,r,e⟩:=I.hok l _ hH
 exact ⟨z,its,n,r,r.length,e⟩
theorem mh {n:Nat}(h:n<=sizeLine):Builtin.List.listTooLong n=false:=by
 unfold Builtin.List.listTooLong
 exact jR (by omega)
end
section
variable {X:Cx}
def ID:V->List V->Hp->VK->Prop:=λx vs H Q=>∃l xs y,x=.ref l/\vs=[y]/\H l=some (.lst xs)/\xs.length<sizeLine/\Q .non (upd H l (.lst (xs++[y])))
theorem znZ:AJ X "list.append" ID:=by
 intro pins s U H x vs v us Q I rx rv h
 obtain ⟨l,xs,y,rfl,rfl,hH,hz,q⟩:=h
 cases rx
 obtain ⟨u,rfl,ru⟩:=rv.one
 obtain ⟨z,its,n,r,hl,e⟩:=I.lstM hH
 refine call_meets F.slot_list_append ⟨_,e,rfl⟩ F.entry_list_append (F.args_list_append_2 _ _) (PySem.list_append l its.toArray n u (by rw [yV];omega)) ⟨e,?_⟩
 refine ⟨.non,_,I.lset (its':=its++[u]) hH e (by simp) (r.append (.cons ru .nil)) ?_,rfl,q⟩
 rw [ig,List.length_singleton]
 omega
def IE:V->List V->Hp->VK->Prop:=λx vs H Q=>∃l b xs zs,x=.ref l/\vs=[.ref b]/\H l=some (.lst xs)/\H b=some (.lst zs)/\xs.length+zs.length<=sizeLine/\Q .non (upd H l (.lst (xs++zs)))
theorem zn1:AJ X "list.extend" IE:=by
 intro pins s U H x vs v us Q I rx rv h
 obtain ⟨l,b,xs,zs,rfl,rfl,hH,hB,hz,q⟩:=h
 cases rx
 obtain ⟨u,rfl,ru⟩:=rv.one
 cases ru
 obtain ⟨z,its,n,r,hl,e⟩:=I.lstM hH
 obtain ⟨z2,aV,n2,r2,hl2,e2⟩:=I.lstM hB
 have hsz:its.toArray.size+aV.toArray.size<=sizeLine:=by rw [yV,yV];omega
 have sT:¬(!its.toArray.isEmpty&&Builtin.List.listTooLong (its.toArray.size+aV.toArray.size))=true:=by
  rw [mh hsz,Bool.and_false]
  exact Bool.false_ne_true
 refine call_meets F.slot_list_extend ⟨_,e,rfl⟩ F.entry_list_extend (F.args_list_extend_2 _ _)
  (AutoSeq1.list_extend_list_list_0 l its.toArray n b aV.toArray n2 sT (by rw [yV];omega) (by omega)) ⟨e,e2,?_⟩
 refine ⟨.non,_,I.lset (its':=its++aV) hH e (by simp) (r.append r2) ?_,rfl,q⟩
 rw [ig]
 omega
def IF:R2:=λx y H Q=>∃l b xs zs,x=.ref l/\y=.ref b/\H l=some (.lst xs)/\H b=some (.lst zs)/\xs.length+zs.length<=sizeLine/\∀p,H p=none->Q (.ref p) (upd H p (.lst (xs++zs)))
def IG:ba X (binaryOp .Add) IF:=by
 intro pins s U H x y v u Q I rx ry h
 obtain ⟨l,b,xs,zs,rfl,rfl,hH,hB,hz,q⟩:=h
 cases rx
 cases ry
 obtain ⟨z,its,n,r,hl,e⟩:=I.lstM hH
 obtain ⟨z2,aV,n2,r2,hl2,e2⟩:=I.lstM hB
 refine PySem.P.add_list e e2 ?_ (by rw [yV,yV];omega)
 have ea:its.toArray++aV.toArray=(its++aV).toArray:=by simp
 rw [ea]
 exact ⟨.ref _,_,I.lnew (t':=s.toks) (r.append r2) (by rw [ig];omega),rfl,q _ I.fresh⟩
end
section
variable {prog:Program}{w:World}{A:Around}{E:Aa}{s:Shared}
end
section
variable {X:Cx}
end
end L2
namespace Att
open PySem PySem.W PySem.Calls PyProof.Rows
def IH {P:Params}{h:Heap}:∀(ns:List Int) (vs:Af),WellAll P h vs (ns.map WData.int)->IntsAre vs ns:=by
 intro ns
 induction ns with
 | nil =>
  intro vs w
  rw [List.map_nil] at w
  cases w
  exact .nil
 | cons n ns ih =>
  intro vs w
  rw [yQ] at w
  cases w with
  | cons a b =>
   cases a
   exact .cons _ _ (ih _ b)
theorem II {l:OpenLaw}{n:Nat}(hn:l.most=some n) {P:Params}{h:Heap}{args:List WData}{vals:Af}
  (lJ:l.row.toRowW.claim.pre args=true) (hwl:WellAll P h vals args) :
  ∃a vs ns,vals=[Value.ref a]/\args=[WData.list (ns.map WData.int)]/\h.get? a=some { cls:=.type "list", data:=.seq vs.toArray }/\IntsAre vs ns/\ns.length<=n:=by
 have IJ:WShape.hasAll [] args [.list .int]=true:=(pre_splitW lJ).1
 have hc:l.pre.holds [] { args:=args }=true:=(pre_splitW lJ).2
 obtain ⟨d,r,rfl,h1,h2⟩:=hasAllW_cons IJ
 obtain rfl:=hasAllW_nil h2
 obtain ⟨xs,rfl,h3⟩:=hasW_list h1
 obtain ⟨ns,rfl⟩:=items_int h3
 have hlen:ns.length<=n:=by
  unfold OpenLaw.pre at hc
  have h4:(WTm.not (.lt (.lit (.int (n:Int))) (.len (.arg 0)))).holds [] { args:=[.list (ns.map .int)] }=true:=by
   have h4:=(holds_andW hc).1
   rw [hn] at h4
   exact h4
  have h5:=condW_of h4 (w_not (w_lt w_lit (w_len_list (w_arg rfl))))
  rw [jZ] at h5
  refine Nat.le_of_not_lt λq=>?_
  have q':(n:Int)<((ns.length:Nat):Int):=by omega
  first
   | (rw [il q'] at h5;exact absurd h5 (by decide))
   | (simp at h5;omega)
 cases hwl with
 | cons w1 w2 =>
  cases w2
  cases w1 with
  | list ho gf=>exact ⟨_,_,ns,rfl,rfl,ho,IH ns _ gf,hlen⟩
def IK (l:OpenLaw) (args:List WData):l.row.toRowW.claim.post args (.bool true) args=true :=
 postW_of (r:=l.row.toRowW) (X:=(true==true))
  (show WShape.has [] (.bool true) .bool=true by first|rfl|decide|simp [WShape.has,WShape.arms,WShape.armsAll])
  (show (WTm.eq .res (.lit (.bool true))).value [] { args:=args,res:=some (.bool true),after:=args }=some (.bool (true==true)) from w_eq_bool (w_res rfl) w_lit) rfl
def attach_call {l:OpenLaw}{n:Nat}{q:Program}{loose:Ad}{XP:(Ab)->Heap->Prop}{YP:World->Heap->Prop}{d:DefRec}
  (hn:l.most=some n) (nJ:d.params.defaults=[])
  (call:∀(w:World) (s₀ ak:Shared) (mg mb:Ab) (fa:Addr) (o:Obj) (pm cd doc:Value) (a:Addr) (vs:Af) (ns:List Int),
   Ground q loose [] XP w s₀ mg mb ak.heap->YP w ak.heap ->
   ak.heap.get? fa=some o->o.data=.func (docDef d.name d.params d.body d.scope pm cd doc)->ak.heap.CodeRec cd d.name->mg d.name=some (.ref fa) ->
   ak.heap.get? a=some { cls:=.type "list", data:=.seq vs.toArray }->IntsAre vs ns->ns.length<=n->ak.gens=#[] ->
   codeAny (model l.prog w) callerA (.call (.ref fa) ⟨[.ref a],[]⟩) (λr s'=>r=.ok (.ret (.bool true))/\OldK ak.heap s'.heap/\s'.os=ak.os/\AllBare s'.gens) ak) :
  WalkO q loose XP YP l.row.toRowW d [] (λf vs=>PySem.call f vs):=by
 intro w s₀ ak mg mb G Y fa o pm cd doc dV kV ho hd eO hD hmg hg args vals as lJ hlay hrd hwl hlo
 obtain rfl:dV=.none:=Dflts.none hD nJ
 obtain rfl:kV=.none:=Dflts.noKw hD
 obtain ⟨a,vs,ns,rfl,rfl,nK,hints,hlen⟩:=II hn lJ hwl
 refine enter_call (codeAny_mono (call w s₀ ak mg mb fa o pm cd doc a vs ns G Y ho (fd_plain hd) eO hmg nK hints hlen hg) λr s' hq=>?_)
 obtain ⟨rfl,h2,h3,h4⟩:=hq
 exact ⟨.inl ⟨.bool true,.bool true,[],rfl,λ_=>rfl,.bool true,IK l _,λ_=>⟨List.Pairwise.nil,λ_ hm=>(nomatch hm)⟩⟩,h2,h3,h4⟩
section
variable {prog:Program}{w:World}{A:Around}{E:Aa}{s:Shared}{K:Frag}
end
end Att
namespace L2
open PySem PySem.Spec PyProof.Rows
theorem AK:∀{vs:Af}{ns:List Int},IntsAre vs ns->Vals (ns.map V.int) vs
 | _,_,.nil=>.nil
 | _,_,.cons n t h=>.cons ⟨t,rfl⟩ (AK h)
def Only (H:Hp):Prop:=∀b,H b=none\/∃o xs,H b=some (.frz o (.lst xs))
def IL {P:Program}{w:World}{K:PySem.W.Frag}{mg mb:Ab}{CX:dI}{k:Nat}{fa a:Addr}{fd:FuncData}{x:Str}{sp:Sp}{ak:Shared}{vs:Af}{ns:List Int}
  (KX:K.In ak.heap) (AL:ak.heap.Ns mainGlobals mg) (hb:ak.heap.Ns builtinsNs mb) (nL:∀x:Str,x ≠ "__name__" -> mb x=bootBuiltins x) (rW:ak.heap.NoLimit) (hg:ak.gens=#[])
  (ha:ak.heap.get? a=some { cls:=.type "list", data:=.seq vs.toArray }) (hi:IntsAre vs ns) (hl:ns.length<=sizeLine) (hr:aW k callerA)
  (F:∀base:Heap,K.In base->base.Ns mainGlobals mg->bp P w K mg base CX k fa fd [x] sp) (sU:∀(s:Shared) (u:Value),BindsTo s fd ⟨[u],[]⟩ [(x,u)])
  (gG:∀H:Hp,Only H->bo K H a (ns.map V.int)->sp [.ref a] H (λv _=>v=.bl true) λ_ _ _=>False)
  (sV:∀H e s',CX [] H ak (λ_ _ _=>False) e s'->False) :
  codeAny (model P w) callerA (.call (.ref fa) ⟨[.ref a],[]⟩) (λr s'=>r=.ok (.ret (.bool true))/\OldK ak.heap s'.heap/\s'.os=ak.os/\AllBare s'.gens) ak:=by
 have rv:=AK hi
 have AO:=hi.length
 have core:∀H:Hp,Only H->bo K H a (ns.map V.int)->bR P w H ak.heap->(∀b,H b≠none->b=a)->(H a≠none->K.lookup a=none) ->
   codeAny (model P w) callerA (.call (.ref fa) ⟨[.ref a],[]⟩) (λr s'=>r=.ok (.ret (.bool true))/\OldK ak.heap s'.heap/\s'.os=ak.os/\AllBare s'.gens) ak:=by
  intro H hO hS hok hA hK
  have iB:∀{b:Addr} {o:Obj},ak.heap.get? b=some o->H b=none->(eS ak.heap H).get? b=some o:=λe n=>F5 e n
  have nH:∀{b:Addr} {o:Obj} {es:Array DictEntry} {ep:Nat},ak.heap.get? b=some o->o.data=.dict es ep->H b=none:=λ{b o es ep} e d=>by
   cases q:H b with
   | none=>rfl
   | some u =>
    have e':b=a:=hA b (by rw [q];simp)
    subst e'
    rw [ha] at e;cases e
    have d':Data.seq vs.toArray _=Data.dict es ep:=d
    cases d'
  have p_:∀{b:Addr} {m:Ab},ak.heap.Ns b m->(eS ak.heap H).Ns b m:=λ{b m} ⟨o,es,ep,e,d,r⟩=>⟨o,es,ep,iB e (nH e d),d,r⟩
  have AQ:K.In (eS ak.heap H):=λb o e=>iB (KX b o e) (by
   cases q:H b with
   | none=>rfl
   | some u =>
    have e':b=a:=hA b (by rw [q];simp)
    subst e'
    rw [hK (by rw [q];simp)] at e;cases e)
  have hM:Mod K mg (eS ak.heap H):=⟨AQ,p_ AL,⟨mb,p_ hb,nL⟩,let ⟨mc,h1,h2⟩:=rW;⟨mc,p_ h1,h2⟩⟩
  have e0:eJ P w K mg (eS ak.heap H) callerA [] ak H:=⟨rfl,hM,λb o e=>F6 e,Nat.le_of_eq (F2 _ _),trivial,λb hb=>absurd (show b∈([]:Ae) from hb) (by simp),hok,.of_eq hg⟩
  refine codeAny_mono ((F _ AQ (p_ AL)).run callerA [] ak H ⟨[.ref a],[]⟩ [.ref a] [.ref a] _ _ hr e0 (sU ak (.ref a)) (.cons rfl .nil) (gG H hO hS)) λr s' h=>?_
  cases r with
  | error e=>exact (sV H e s' h).elim
  | ok fl =>
   cases fl with
   | next=>exact h.elim
   | brk=>exact h.elim
   | cont=>exact h.elim
   | ret u =>
    obtain ⟨v,H',os,bare,un,AU,r',q⟩:=h
    have q':v=.bl true:=q
    subst q'
    obtain rfl:u=Value.bool true:=r'
    refine ⟨rfl,OldK.of_keep λb o e=>?_,os,bare⟩
    cases q:H b with
    | none=>exact un.keep b o e q (by intro z;exact absurd (show b∈([]:Ae) from z) (by simp)) (by simp)
    | some u =>
     rcases hO b with z|⟨ob,xs,z⟩
     ·rw [q] at z;cases z
     ·have z2:=un.frzs b ob _ z
      obtain ⟨e1,_⟩:=hok b _ z
      obtain ⟨e2,_⟩:=AU b _ z2
      rw [e] at e1;cases e1
      exact e2
 cases hk:K.lookup a with
 | some o =>
  have e:=KX a o hk
  rw [ha] at e
  cases e
  refine core (λ_=>none) (λ_=>.inl rfl) (.inr ⟨_,vs.toArray,_,hk,rfl,rfl,rfl,by rw [yV,AO];exact hl,by simpa using rv⟩) (λb u z=>by have z':(none:Option HO)=some u:=z;cases z') (λb z=>absurd rfl z) λz=>absurd rfl z
 | none =>
  refine core (λb=>if b=a then some (.frz { cls:=.type "list", data:=.seq vs.toArray } (.lst (ns.map V.int))) else none) (λb=>?_) (.inl (.inr ⟨{ cls:=.type "list", data:=.seq vs.toArray },zu rfl⟩)) (λb u z=>?_) (λb z=>?_) λ_=>hk
  ·by_cases hb:b=a
   ·exact .inr ⟨_,_,zu hb⟩
   ·exact .inl (zF hb)
  ·by_cases hb:b=a
   ·have z':=(zu hb).symm.trans z
    cases z'
    subst hb
    exact ⟨ha,by rw [jZ];exact hl,vs,_,rv,ha⟩
   ·have z':=(zF hb).symm.trans z
    cases z'
  ·by_cases hb:b=a
   ·exact hb
   ·exact absurd (zF hb) z
abbrev KOf {K:PySem.W.Frag}{h:Heap}(_:K.In h):PySem.W.Frag:=K
def zn8 {l:PySem.W.OpenLaw}{n k:Nat}{q:Program}{loose:Ad}{XP:(Ab)->Heap->Prop}{YP:World->Heap->Prop}{d:DefRec}{K:Params->PySem.W.Frag}{CX:World->dI}{sp:World->Sp}{x:Str}
  (hn:l.most=some n) (fB:n<=sizeLine) (nJ:d.params.defaults=[]) (hr:aW k callerA)
  (hY:∀(w:World) (h:Heap),YP w h->(K w.params).In h)
  (F:∀(w:World) (mg:Ab) (fa:Addr) (h:Heap),(K w.params).In h->h.Ns mainGlobals mg->mg d.name=some (.ref fa) ->
   ∃fd:FuncData,(∀(s:Shared) (u:Value),BindsTo s fd ⟨[u],[]⟩ [(x,u)]) /\
    ∀base:Heap,(K w.params).In base->base.Ns mainGlobals mg->bp l.prog w (K w.params) mg base (CX w) k fa fd [x] (sp w))
  (gG:∀(w:World) (H:Hp) (a:Addr) (ns:List Int),ns.length<=n->Only H->bo (K w.params) H a (ns.map V.int)->sp w [.ref a] H (λv _=>v=.bl true) λ_ _ _=>False)
  (sV:∀(w:World) (H:Hp) (s:Shared) (e:Value) (s':Shared),CX w [] H s (λ_ _ _=>False) e s'->False) :
  PySem.W.WalkO q loose XP YP l.row.toRowW d [] (λf vs=>PySem.call f vs):=by
 refine Att.attach_call hn nJ λw s₀ ak mg mb fa o pm cd doc a vs ns G Y ho hd eO hmg nK hints hlen hg=>?_
 have KX:=hY w _ Y
 obtain ⟨fd,hb,hF⟩:=F w mg fa _ KX G.T.g hmg
 exact IL KX G.T.g G.T.b G.T.builtins G.T.nolimit hg nK hints (y6 hlen fB) hr hF hb (λH hO hS=>gG w H a ns hlen hO hS) λH e s'=>sV w H ak e s'
def inClass (s:Stmt) (j:Nat):Stmt:=match s with
 | .ClassDef _ _ _ body _ _ _ _ _ _ _=>body.getD j (.Pass ⟨0,0,0,0⟩)
 | _=>.Pass ⟨0,0,0,0⟩
def j0 (s:Stmt):Arguments:=match s with
 | .FunctionDef _ a _ _ _ _ _ _ _ _=>a
 | _=>{ posonlyargs:=[],args:=[],vararg:=none,kwonlyargs:=[],kw_defaults:=[],kwarg:=none,defaults:=[] }
def je (s:Stmt):List Stmt:=match s with
 | .FunctionDef _ _ b _ _ _ _ _ _ _=>b
 | _=>[]
def zD (s:Stmt):Scope:=match s with
 | .FunctionDef _ _ _ _ _ _ sc _ _ _=>sc
 | _=>{ kind:=.function,names:=[],isGenerator:=false,isCoroutine:=false }
abbrev AV:dI:=λ_ _ _ _ _ _=>False
abbrev E0:XK:=λ_ _ _=>False
structure dJ (K:PySem.W.Frag) (x qual:Str) (st:Stmt) (f:Addr) (fd:FuncData):Prop where
 ex:∃(oc:Value) (od:Option Addr) (kV doc pm:Value) (an:Option Addr) (aX ct:Value) (eQ:Array (Option Value)),
  fd=PySem.W.fnOf x qual (j0 st) (je st) (zD st) .none kV doc pm an aX ct/\K.lookup f=some ⟨oc,od,.func fd,eQ⟩/\PySem.W.codeIn K aX qual=true
 kp:PySem.W.keepIn K (.ref f)=true
section
variable {P:Program}{w:World}{K:PySem.W.Frag}{mg:Ab}{base:Heap}
def dJ.ok {x qual:Str}{st:Stmt}{f:Addr}{fd:FuncData}{N ps:Ad}{k:Nat}{sp:Sp}(F:dJ K x qual st f fd) (S:aa N ps (zD st)) (len:∀vs H Q E,sp vs H Q E->vs.length=ps.length)
  (eR:∀(aX:Value) (A:Around) (outer:List Env) (s:Shared) (H:Hp) (vs:List V) (Q:VK) (E:XK),aW k (A.deeper (envOfC qual (zD st) s.heap.objs.size f aX))->sp vs H Q E ->
   ∃t,bY (dg AV P w K mg base N qual (zD st) f aX A outer s H E).nox (je st) t/\t { nx:=λ_ H'=>Q .non H',rt:=Q } (start N vs) H):bp P w K mg base AV (k+1) f fd ps sp:=by
 obtain ⟨oc,od,kV,doc,pm,an,aX,ct,eQ,rfl,lk,eO⟩:=F.ex
 refine Aw lk eO S len λA outer s H vs Q E hr gG=>?_
 obtain ⟨t,h,q⟩:=eR aX A outer s H vs Q E hr gG
 exact ⟨t,h.nox,q⟩
def dJ.binds {x qual:Str}{st:Stmt}{f:Addr}{fd:FuncData}{ps:Ad}(F:dJ K x qual st f fd)
  (h:∀(kV doc pm:Value) (an:Option Addr) (aX ct:Value) (us:Af),us.length=ps.length->bindArgs (PySem.W.fnOf x qual (j0 st) (je st) (zD st) .none kV doc pm an aX ct) ⟨us,[]⟩=pure (ps.zip us)):Binds K fd ps []:=by
 obtain ⟨oc,od,kV,doc,pm,an,aX,ct,eQ,rfl,lk,eO⟩:=F.ex
 exact .all (h kV doc pm an aX ct)
def iC {x qual:Str}{st:Stmt}{f:Addr}{oc:Value}{od an:Option Addr}{eQ:Array (Option Value)}{kV doc pm aX ct:Value}(l:K.lookup f=some ⟨oc,od,.func (PySem.W.fnOf x qual (j0 st) (je st) (zD st) .none kV doc pm an aX ct),eQ⟩)
  (c:PySem.W.codeIn K aX qual=true) (k:PySem.W.keepIn K (.ref f)=true):dJ K x qual st f (PySem.W.fnOf x qual (j0 st) (je st) (zD st) .none kV doc pm an aX ct):=⟨⟨oc,od,kV,doc,pm,an,aX,ct,eQ,rfl,l,c⟩,k⟩
end
section
variable {X:Cx}
def pv (i:Nat) {x:Str} {pos:Pos} (hN:X.N[i]?=some x:=by rfl) (hv:nj X.env.scope x:=by first|exact Or.inl rfl|exact Or.inr (Or.inl rfl)|exact Or.inr (Or.inr rfl)) (hd:(x==("__debug__" : Str))=false:=by decide)
  (eO:(x==("__classdict__" : Str))=false:=by decide):PE X (.Name x pos) (pO i):=xM hN hv hd eO
end
def eK (H H':Hp):Prop:=∀b o,H b=some o->H' b=some o
def eK.refl (H:Hp):eK H H:=λ_ _ h=>h
def eK.trans {H H1 H2:Hp}(a:eK H H1) (b:eK H1 H2):eK H H2:=λc o h=>b c o (a c o h)
def eK.free {H H':Hp}(e:eK H H') {l:Addr}(h:H' l=Option.none):H l=Option.none:=by
 cases q:H l with
 | none=>rfl
 | some o =>
  rw [e l o q] at h
  cases h
def eK.seq {K:PySem.W.Frag}{H H':Hp}{a:Addr}{xs:List V}(e:eK H H') (h:bo K H a xs):bo K H' a xs:=by
 rcases h with (h|⟨o,h⟩)|h
 ·exact .inl (.inl (e _ _ h))
 ·exact .inl (.inr ⟨o,e _ _ h⟩)
 ·exact .inr h
end L2
set_option maxHeartbeats 4000000
namespace L2
open PySem PySem.Spec PyProof.Rows
theorem AW {l z D b:Nat}(h1:l<z) (h2:z=D) (h3:D<=b) (h4:b=l):False:=by omega
theorem ko {b D C:Nat}(h1:b<D) (h2:C=D+1) (h3:b=C):False:=by omega
theorem AX {b e d:Nat}(h1:b<e) (h2:e<=d) (h3:d<=b):False:=by omega
theorem AY {b D p:Nat}(h1:b<D) (h2:p=D) (h3:p=b):False:=by omega
theorem sW (env:Env):∀(l:List (Str×NameKind)) (acc:List (Str×Addr)),(∀p∈l,p.2=.free->∃c,env.cells.lookup p.1=some c) ->
  ∃cl,(forIn l acc (λ(x:Str×NameKind) (cs:List (Str×Addr))=>if (x.snd==NameKind.free)=true then do
            let a <-cellOf env x.fst
            pure (ForInStep.yield ((x.fst,a)::cs))
      else pure (ForInStep.yield cs)):Sem (List (Str×Addr)))=pure cl /\
   (∀y c,(y,c)∈cl->(y,c)∈acc\/(env.cells.lookup y=some c/\(y,NameKind.free)∈l))/\(∀p∈acc,p∈cl)/\(∀y,(y,NameKind.free)∈l->∃c,(y,c)∈cl)
 | [],acc,_=>⟨acc,rfl,λ_ _ h=>.inl h,λ_ h=>h,λ_ h=>nomatch h⟩
 | (n,k)::r,acc,gf=>by
  by_cases hk:k=.free
  ·subst hk
   obtain ⟨c,hc⟩:=gf (n,.free) jk rfl
   obtain ⟨cl,e,h1,h2,h3⟩:=sW env r ((n,c)::acc) λp hp=>gf p (jr _ hp)
   refine ⟨cl,?_,λy d hy=>?_,λp hp=>h2 p (jr _ hp),λy hy=>?_⟩
   ·rw [List.forIn_cons]
    simp only [beq_self_eq_true,wy]
    have:cellOf env n=pure c:=by unfold cellOf;rw [hc]
    rw [this]
    exact e
   ·rcases h1 y d hy with q|q
    ·rcases yE.mp q with q|q
     ·cases q
      exact .inr ⟨hc,jk⟩
     ·exact .inl q
    ·exact .inr ⟨q.1,jr _ q.2⟩
   ·rcases yE.mp hy with q|q
    ·cases q
     exact ⟨c,h2 _ jk⟩
    ·exact h3 y q
  ·obtain ⟨cl,e,h1,h2,h3⟩:=sW env r acc λp hp=>gf p (jr _ hp)
   refine ⟨cl,?_,λy d hy=>?_,h2,λy hy=>?_⟩
   ·rw [List.forIn_cons]
    have:(k==NameKind.free)=false:=by simpa using hk
    simp only [this,Bool.false_eq_true,if_false]
    exact e
   ·rcases h1 y d hy with q|q
    ·exact .inl q
    ·exact .inr ⟨q.1,jr _ q.2⟩
   ·rcases yE.mp hy with q|q
    ·cases q
     exact absurd rfl hk
    ·exact h3 y q
theorem AZ {β:Type}{y:Str}:∀{l:List (Str×β)}{c:β},(y,c)∈l->∃d,l.lookup y=some d
 | (n,b)::r,c,h=>by
  rw [wa]
  cases e:y==n with
  | true=>exact ⟨b,rfl⟩
  | false =>
   rcases yE.mp h with q|q
   ·cases q
    simp at e
   ·exact AZ q
def A0 (env:Env) (scope:Scope) (gf:∀p∈scope.names,p.2=.free->∃c,env.cells.lookup p.1=some c) :
  ∃cl,closureFor scope env=pure cl/\(∀y c,cl.lookup y=some c->env.cells.lookup y=some c)/\(∀y,(y,NameKind.free)∈scope.names->∃c,cl.lookup y=some c):=by
 obtain ⟨cl,e,h1,_,h3⟩:=sW env scope.names [] gf
 refine ⟨cl,?_,λy c hy=>?_,λy hy=>?_⟩
 ·simp only [closureFor]
  rw [e]
  rfl
 ·rcases h1 y c (PySem.mem_of_lookup hy) with z|z
  ·cases z
  ·exact z.1
 ·obtain ⟨c,hc⟩:=h3 y hy
  exact AZ hc
structure cZ (sc scope:Scope) (x:Str):Prop where
 kind:scope.kind=.function
 ncell:∀y∈scope.names,y.2 ≠ .cell
 names:∀y∈scope.names,y.2=.local->scope.names.lookup y.1=some .local/\(y.1=x\/y.1 = ".0")
 hx:scope.names.lookup x=some .local
 free:∀y∈scope.names,y.2=.free->sc.names.lookup y.1=some .cell
def iD (X:Cx) (M:Ad) (scope:Scope) (cl:List (Str×Addr)) (x:Str) (C:Addr) (af:Shared) (ah:Hp) (fp:Ae) (E:Aa):Cx :=
 { X with N:=x::M,s₀:=af,H₀:=ah,env:=compEnvC scope cl C X.env,outer:=X.stack,ex:=fp,fn:=λ_=>false,pn:=[],xe:=E }
def Hid (scope:Scope) (M N:Ad):Prop:=M.length=N.length/\∀p∈M.zip N,p.1=p.2\/p.1∉scope.names.map Prod.fst
def Hid.refl {scope:Scope}{N:Ad}:Hid scope N N:=⟨rfl,λp hp=>.inl (by
 obtain ⟨i,hi,e⟩:=List.getElem_of_mem hp
 rw [List.getElem_zip] at e
 rw [<-e])⟩
def Hid.get {scope:Scope}{M N:Ad}(h:Hid scope M N) {i:Nat}{y:Str}(e:M[i]?=some y):N[i]?=some y\/y∉scope.names.map Prod.fst:=by
 obtain ⟨hi,ei⟩:=yt.mp e
 have hj:i<N.length:=h.1▸hi
 have hm:(M[i],N[i])∈M.zip N:=m7 (i:=i) (by rw [List.getElem?_zip_eq_some];exact ⟨yB hi,yB hj⟩)
 rcases h.2 _ hm with q|q
 ·exact .inl (by rw [yB hj,<-ei];exact congrArg some q.symm)
 ·exact .inr (by rw [<-ei];exact q)
def A2 (X:Cx) (scope:Scope) (cl:List (Str×Addr)) (x:Str) (C:Addr) (af:Shared) (ah:Hp) (fp:Ae) (E:Aa):Cx :=
 { X with N:=x::X.N,s₀:=af,H₀:=ah,env:=compEnvC scope cl C X.env,outer:=X.stack,ex:=fp,fn:=λ_=>false,pn:=[],xe:=E }
section
variable {X:Cx}{scope:Scope}{cl:List (Str×Addr)}{x:Str}
def iE {env:Env}{y:Str}{k:NameKind}(h:(relabel scope env).names.lookup y=some k):∃k0,(y,k0)∈scope.names/\((k0=.free/\env.kindOf y=some .cell/\k=.cell)\/(k=k0/\¬(k0=.free/\env.scope.kind=.function/\env.kindOf y=some .cell))):=by
 have hm:=PySem.mem_of_lookup h
 obtain ⟨⟨n,k0⟩,hn,e⟩:=wm.mp hm
 by_cases hc:(k0==NameKind.free&&env.scope.kind == .function&&env.kindOf n==some .cell)=true
 ·have e':(n,NameKind.cell)=(y,k):=by rw [<-e];simp only [hc,wy]
  cases e'
  simp only [j9,beq_iff_eq] at hc
  exact ⟨_,hn,.inl ⟨hc.1.1,hc.2,rfl⟩⟩
 ·have e':(n,k0)=(y,k):=by rw [<-e];simp only [hc,if_false];rfl
  cases e'
  refine ⟨_,hn,.inr ⟨rfl,λ⟨a,b,c⟩=>hc ?_⟩⟩
  simp [a,b,c]
def A3 (S:cZ X.env.scope scope x) {y:Str} (h:(relabel scope X.env).names.lookup y=some .local):y=x\/y = ".0" := by
 obtain ⟨k0,hm,⟨_,_,e⟩|⟨e,_⟩⟩:=iE h
 ·cases e
 ·subst e
  exact (S.names _ hm rfl).2
def sX (S:cZ X.env.scope scope x) (hk:X.env.scope.kind=.function) {y:Str}(h:(relabel scope X.env).names.lookup y=some .cell\/(relabel scope X.env).names.lookup y=some .free):(y,NameKind.free)∈scope.names:=by
 rcases h with h|h
 ·obtain ⟨k0,hm,⟨e,_,_⟩|⟨e,_⟩⟩:=iE h
  ·subst e;exact hm
  ·subst e;exact absurd rfl (S.ncell _ hm)
 ·obtain ⟨k0,hm,⟨_,_,e⟩|⟨e,n⟩⟩:=iE h
  ·cases e
  ·subst e
   exact hm
end
def IM {P:Program}{wd:World}{B:Around}{Z:Result->Shared->Prop}{u0:Shared}{el tg iter:Expr}{sc:Scope}{ps:Pos}{iv ac:Value}{ev:Env}(J0:Nat->Shared->Prop)
  (turn:∀k u,J0 k u->wpAny (model P wd) B (pyNext iv) (λr u1=>match r with|none=>Z (.ok .next) u1|some v=>wpAny (model P wd) B (letOwnedTupleGo tg iv v) (λ_ u2 =>
   wpAny (model P wd) B (assign tg ev v) (λ_ u3=>wpAny (model P wd) B (eval el ev) (λy u4=>wpAny (model P wd) B (call (.builtin "list.append") [ac,y]) (λ_ u5=>∃m,m<k/\J0 m u5)
    (notedBy (model P wd) B ev λe u=>Z (.error e) u) u4) (notedBy (model P wd) B ev λe u=>Z (.error e) u) u3) (notedBy (model P wd) B ev λe u=>Z (.error e) u) u2) (notedBy (model P wd) B ev λe u=>Z (.error e) u) u1)
   (notedBy (model P wd) B ev λe u=>Z (.error e) u) u)
  (k0:Nat) (gZ:J0 k0 u0):codeAny (model P wd) B (.compLoop (.ListComp el [⟨tg,iter,[],0⟩] sc ps) 0 iv ac ev) Z u0:=by
 refine codeAny_loop rfl J0 (λk u hJ=>wpAny_noted (E:=λe u=>Z (.error e) u) (env:=ev) (m:=compTurn (.ListComp el [⟨tg,iter,[],0⟩] sc ps) 0 iv ac ev) ?_) k0 gZ
 rw [compTurn_list1]
 have one:=turn k u hJ
 refine zp (wpAny_standAt (zp (yG one (λr u1 q1=>?_) λ_ _ z=>z)))
 cases r with
 | none=>exact zK q1
 | some v =>
  refine zp (yG q1 (λ_ u2 q2=>zp (yG q2 (λ_ u3 q3=>?_) λ_ _ z=>z)) λ_ _ z=>z)
  exact zp (zp (yG q3 (λy u4 q4=>zp (yG q4 (λ_ u5 q5=>zK (zK ⟨rfl,q5⟩)) λ_ _ z=>z)) λ_ _ z=>z))
def kq (J:It) (te:TE) (U:St) (Q:VK) (H1:Hp):Prop:=∃W:Nat->Nat->List V->Hp->Prop,(∃m,W 0 m [] H1)/\∀i m ys H,W i m ys H ->
 (J.stop i H/\ys.length<=sizeLine/\∀l,H l=none->Q (.ref l) (upd H l (.lst ys))) \/
 (J.go i H/\ys.length<=sizeLine/\∀z H',J.yld i H z H'->te (some z::U) H' λy H2=>∃m',m'<m/\W (i+1) m' (ys++[y]) H2)
def A5 (wi:TI) (te:TE):TE:=λU H Q=>wi U H λJ H1=>kq J te U Q H1
end L2
namespace L2
open PySem PySem.Spec PyProof.Rows PySem.W
structure c5 (sc scope:Scope) (xs:Ad):Prop where
 kind:scope.kind=.function
 ncell:∀y∈scope.names,y.2 ≠ .cell
 names:∀y∈scope.names,y.2=.local->scope.names.lookup y.1=some .local/\(y.1∈xs\/y.1 = ".0")
 free:∀y∈scope.names,y.2=.free->sc.names.lookup y.1=some .cell
def eB (X:Cx) (scope:Scope) (cl:List (Str×Addr)) (xs:Ad) (C:Addr) (af:Shared) (ah:Hp) (fp:Ae) (E:Aa):Cx :=
 { X with N:=xs++X.N,s₀:=af,H₀:=ah,env:=compEnvC scope cl C X.env,outer:=X.stack,ex:=fp,fn:=λ_=>false,pn:=[],xe:=E }
def fP (X:Cx) (M:Ad) (scope:Scope) (cl:List (Str×Addr)) (xs:Ad) (C:Addr) (af:Shared) (ah:Hp) (fp:Ae) (E:Aa):Cx :=
 { X with N:=xs++M,s₀:=af,H₀:=ah,env:=compEnvC scope cl C X.env,outer:=X.stack,ex:=fp,fn:=λ_=>false,pn:=[],xe:=E }
section
variable {X:Cx}{scope:Scope}{xs:Ad}
def A6 (S:c5 X.env.scope scope xs) {y:Str} (h:(relabel scope X.env).names.lookup y=some .local):y∈xs\/y = ".0" := by
 obtain ⟨k0,hm,⟨_,_,e⟩|⟨e,_⟩⟩:=iE h
 ·cases e
 ·subst e
  exact (S.names _ hm rfl).2
def sY (S:c5 X.env.scope scope xs) (hk:X.env.scope.kind=.function) {y:Str}(h:(relabel scope X.env).names.lookup y=some .cell\/(relabel scope X.env).names.lookup y=some .free):(y,NameKind.free)∈scope.names:=by
 rcases h with h|h
 ·obtain ⟨k0,hm,⟨e,_,_⟩|⟨e,_⟩⟩:=iE h
  ·subst e;exact hm
  ·subst e;exact absurd rfl (S.ncell _ hm)
 ·obtain ⟨k0,hm,⟨_,_,e⟩|⟨e,n⟩⟩:=iE h
  ·cases e
  ·subst e
   exact hm
end
def g0 (X:Cx) (ifs:List Expr) (t:TT):Prop:=∀(pins:Ac) (s:Shared) (U:St) (H:Hp) (Q:Bool->Hp->Prop),Inv X pins U H s->t U H Q ->
 wpAny (model X.prog X.w) X.A (forIn ifs true λc r=>if r=true then do let ok <-isTrue c X.env (eval c X.env);pure (ForInStep.yield ok) else pure (ForInStep.yield r)) (TP X pins U Q) X.xe s
def mi:TT:=λ_ H Q=>Q true H
def A7 {X:Cx}:g0 X [] mi:=λpins s U H Q I h=>wpAny_tests_nil ⟨H,I,h⟩
def A8 {X:Cx}{c:Expr}{t:TT}(h:PT X c t):g0 X [c] t:=λpins s U H Q I q=>wpAny_tests_one (h pins s U H Q I q)
def g0.nox {X:Cx}{ifs:List Expr}{t:TT}(h:g0 X.nox ifs t):g0 X ifs t:=λpins s U H Q I hw =>
 yG (h pins s U H Q (I.wish _) hw) (λb s' ⟨H',I',q⟩=>⟨H',I'.unwish,q⟩) λ_ _ z=>z.elim
def IQ {P:Program}{wd:World}{B:Around}{Z:Result->Shared->Prop}{u0:Shared}{el tg iter:Expr}{ifs:List Expr}{sc:Scope}{ps:Pos}{iv ac:Value}{ev:Env}(J0:Nat->Shared->Prop)
  (turn:∀k u,J0 k u->wpAny (model P wd) B (pyNext iv) (λr u1=>match r with|none=>Z (.ok .next) u1|some v=>wpAny (model P wd) B (letOwnedTupleGo tg iv v) (λ_ u2 =>
   wpAny (model P wd) B (assign tg ev v) (λ_ u3=>wpAny (model P wd) B (forIn ifs true λc r=>if r=true then do let ok <-isTrue c ev (eval c ev);pure (ForInStep.yield ok) else pure (ForInStep.yield r)) (λok u4 =>
    if ok=true then wpAny (model P wd) B (eval el ev) (λy u5=>wpAny (model P wd) B (call (.builtin "list.append") [ac,y]) (λ_ u6=>∃m,m<k/\J0 m u6)
    (notedBy (model P wd) B ev λe u=>Z (.error e) u) u5) (notedBy (model P wd) B ev λe u=>Z (.error e) u) u4 else ∃m,m<k/\J0 m u4) (notedBy (model P wd) B ev λe u=>Z (.error e) u) u3) (notedBy (model P wd) B ev λe u=>Z (.error e) u) u2) (notedBy (model P wd) B ev λe u=>Z (.error e) u) u1)
   (notedBy (model P wd) B ev λe u=>Z (.error e) u) u)
  (k0:Nat) (gZ:J0 k0 u0):codeAny (model P wd) B (.compLoop (.ListComp el [⟨tg,iter,ifs,0⟩] sc ps) 0 iv ac ev) Z u0:=by
 refine codeAny_loop rfl J0 (λk u hJ=>wpAny_noted (E:=λe u=>Z (.error e) u) (env:=ev) (m:=compTurn (.ListComp el [⟨tg,iter,ifs,0⟩] sc ps) 0 iv ac ev) ?_) k0 gZ
 rw [compTurn_list]
 have one:=turn k u hJ
 refine zp (wpAny_standAt (zp (yG one (λr u1 q1=>?_) λ_ _ z=>z)))
 cases r with
 | none=>exact zK q1
 | some v =>
  refine zp (yG q1 (λ_ u2 q2=>zp (yG q2 (λ_ u3 q3=>zp (yG q3 (λok u4 q4=>?_) λ_ _ z=>z)) λ_ _ z=>z)) λ_ _ z=>z)
  cases ok with
  | true=>exact zp (zp (yG q4 (λy u4 q4=>zp (yG q4 (λ_ u5 q5=>zK (zK ⟨rfl,q5⟩)) λ_ _ z=>z)) λ_ _ z=>z))
  | false=>exact zp (zK (zK ⟨rfl,q4⟩))
def g6 (J:It) (gt:TG) (tt:TT) (te:TE) (n:Nat) (U:St) (Q:VK) (H1:Hp):Prop:=∃W:Nat->Nat->List V->Hp->Prop,(∃m,W 0 m [] H1)/\∀i m ys H,W i m ys H ->
 (J.stop i H/\ys.length<=sizeLine/\∀l,H l=none->Q (.ref l) (upd H l (.lst ys))) \/
 (J.go i H/\ys.length<=sizeLine/\∀z H',J.yld i H z H'->gt z (List.replicate n none++U) H' λau H1=>∃own:St,au=own++U/\own.length=n/\tt au H1 λb H2 =>
  if b=true then te au H2 λy H3=>∃m',m'<m/\W (i+1) m' (ys++[y]) H3 else ∃m',m'<m/\W (i+1) m' ys H2)
def sZ (wi:TI) (gt:TG) (tt:TT) (te:TE) (n:Nat):TE:=λU H Q=>wi U H λJ H1=>g6 J gt tt te n U Q H1
theorem A9 {X:Cx} {elt iter tg:Expr} {ifs:List Expr} {xs:Ad} {pos:Pos} {scope:Scope} {wi:TI} {gt:TG} {tt:TT} {te:TE} {M:Ad} (hc:X.calm=true) (S:c5 X.env.scope scope xs) (eN:Hid scope M X.N) (cm:((".0" : Str)::(xs++M)).Nodup)
  (hi:PI X tg iter wi) (s9:∀cl C af ah fp E,PG (fP X M scope cl xs C af ah fp E) tg gt) (ku:∀cl C af ah fp,g0 (fP X M scope cl xs C af ah fp (λ_ _=>False)) ifs tt) (he:∀cl C af ah fp,PE (fP X M scope cl xs C af ah fp (λ_ _=>False)) elt te)
  (hs:∀v,foldedSetIterable iter X.env v=pure v:=by intro _;rfl):PE X (.ListComp elt [⟨tg,iter,ifs,0⟩] scope pos) (sZ wi gt tt te xs.length):=by
 intro pins s U H Q I h
 have hN:(xs++M).Nodup:=(jQ.mp cm).2
 have tj:(".0" : Str)∉M:=λz=>(jQ.mp cm).1 (y0 _ z)
 obtain ⟨cl,ky,cQ,iF⟩:=A0 X.env scope λp hp hf=>I.ok.has p.1 (.inl (S.free p hp hf))
 have kA:X.env.scope.kind=.function:=I.ok.kind
 rw [eval_ListComp]
 refine wpAny_comprehension_free (use:=none) rfl hs ky S.kind (λy hy hl=>(S.names y hy hl).1) ?_
 refine aU (hi pins s U H _ I h) λv s1 h1=>aU h1 λpS af h2=>?_
 obtain ⟨it,fp,tn,J,H2,e,I2,T,av,f2,W,⟨m0,w0⟩,turn⟩:=h2
 subst e
 refine wO (wpAny_newFunctionEnv S.ncell (by intro y hy;simp at hy) (λaw aA az=>?_) S.kind)
 dsimp only at aA az ⊢
 generalize hH2:af.heap.push { cls:=.type "list", dict:=none,data:=.seq ([]:Af).toArray }=G2 at aA az ⊢
 have hC:G2.objs.size=af.heap.objs.size+1:=by rw [<-hH2,Heap.size_push]
 have gH:af.heap.objs.size≠G2.objs.size:=by rw [hC];exact yz (jS _)
 have A_:af.heap.objs.size<=G2.objs.size:=by rw [hC];exact Nat.le_succ _
 have old:∀b o,af.heap.get? b=some o->aw.get? b=some o:=λb o e=>by
  have hb:b≠G2.objs.size:=by rw [hC];exact yz (Nat.lt_succ_of_lt (yf e))
  exact az.extBut b o hb (zZ _ (hH2▸zZ _ e))
 have dB:aw.get? af.heap.objs.size=some { cls:=.type "list", data:=.seq (#[]:Array Value) 0 }:=az.extBut _ _ gH (zZ _ (hH2▸yP _ rfl))
 generalize hD:af.heap.objs.size=D at *
 generalize hCC:G2.objs.size=C at *
 have eD:∀{b:Nat} {o:Obj},af.heap.get? b=some o->b<D:=λe=>by rw [<-hD];exact yf e
 have nofr:∀b,D<=b->b∉cN X.stack:=λb hb z=>by
  rcases yE.mp (I2.stkSub b z) with q|q
  ·exact AW I2.lt hD hb q
  ·exact I2.nofs (by rw [hD];exact hb) q
 let E':Aa:=notedBy (model X.prog X.w) X.A (compEnvC scope cl C X.env) λe s'=>compPost (model X.prog X.w) X.A X.xe none (EP X pins U Q) (.ref D) C (.error e) s'
 let Y:Cx:=fP X M scope cl xs C af H2 fp E'
 have du:∀b∈fp,cO X pins H2 b:=f2
 have kB:Y.Ok:=by
  refine ⟨I2.ok.mod,S.kind,I2.ok.glob,I2.ok.blt,(by show af.heap.objs.size<=C;omega),λy z c h1 h2=>?_,λy hy=>?_,λy c hf=>?_,I2.ok.hd,I2.ok.frames,.inl rfl,λb hb=>?_,I2.bs,y6 I2.ok.bsz I2.sz,λb o hb hx=>?_,λb hb hx=>?_,I2.stack,I2.stkFree⟩
  ·exact I2.ok.inj y z c (cQ y c h1) (cQ z c h2)
  ·exact iF y (sY S kA hy)
  ·cases hf
  ·refine ⟨λz=>?_,λy c hy=>(du b hb).2.2.2.2.1 y c (cQ y c hy)⟩
   obtain ⟨o,ho,_⟩:=T.obj 0 _ av b hb
   exact ko (eD ho) hC z
  ·rcases (du b hx).2.2.2.1 with z|z
   ·exact I2.ok.noex b o hb z
   ·exact AX (yf hb) I2.ok.bsz z
  ·rcases yE.mp (I2.stkSub b hx) with q|q
   ·exact (du b hb).2.1 q
   ·exact (du b hb).2.2.1 q
 have fE:∀{s':Shared} {H':Hp} {o:Obj},s'.heap.get? D=some o->H' D=none->(∀v,o.data ≠ .cell v)->∀p∈[(D,o)],s'.heap.get? p.1=some p.2/\H' p.1=none/\p.1≠Y.env.locals/\p.1∉Y.fs/\∀v,p.2.data ≠ .cell v:=λ{s' H' o} e1 e2 e3 p hp=>by
  have ep:p=(D,o):=by simpa using hp
  subst ep
  exact ⟨e1,e2,gH,nofr D (yd _),e3⟩
 have I0:Inv Y [(D,{ cls:=.type "list", data:=.seq (#[]:Array Value) 0 })] (List.replicate xs.length none++U) H2 { af with heap:=aw,toks:=af.toks+([]:List (Str×Value)).length }:=by
  have fresh:∀b,D<=b->H2 b=none:=λb hb=>I2.hok.fresh (by rw [hD];exact hb)
  refine ⟨kB,rfl,I2.bare,Un.kept old,⟨_,aA,λi y v e1 e2 e3=>?_⟩,λy c hy=>?_,fresh C (by omega),λy c hy=>I2.freeC y c (cQ y c hy),λp hp=>fE dB (fresh D (yd _)) (λv z=>by cases z) p hp,I2.hok.kept old,?_⟩
  ·by_cases bu:i<xs.length
   ·rw [ik (by simpa using bu),List.getElem?_replicate] at e2
    simp [bu] at e2
   ·obtain ⟨j,rfl⟩:∃j,i=xs.length+j:=⟨i-xs.length,by omega⟩
    have nM:M[j]?=some y:=by
     have:(xs++M)[xs.length+j]?=some y:=e1
     rw [kf (by omega)] at this
     simpa using this
    have tm:X.N[j]?=some y:=by
     rcases eN.get nM with q|q
     ·exact q
     ·refine absurd ?_ q
      rcases e3 with e3|e3|e3<;>(obtain ⟨k0,hm,_⟩:=iE e3;exact wm.mpr ⟨_,hm,rfl⟩)
    have tq:U[j]?=some (some v):=by
     rw [kf (by simp)] at e2
     simpa using e2
    have iG:¬(y∈xs\/y = ".0"):=λz=>by
     have hm:=m7 nM
     rcases z with z|z
     ·exact (List.nodup_append.mp hN).2.2 y z y hm rfl
     ·rw [z] at hm
      exact tj hm
    have cK:(y,NameKind.free)∈scope.names:=by
     rcases e3 with e3|e3|e3
     ·exact absurd (A6 S e3) iG
     ·exact sY S kA (.inl e3)
     ·exact sY S kA (.inr e3)
    have nO:X.env.scope.names.lookup y=some .cell:=S.free _ cK rfl
    obtain ⟨m,hn,hl⟩:=I2.loc
    obtain ⟨u,r,l⟩:=hl j y v tm tq (.inr (.inl nO))
    refine ⟨u,r,?_⟩
    rcases l with ⟨hk,_⟩|⟨_,c,l9,dQ⟩
    ·have:X.env.kindOf y=some .cell:=nO
     rw [this] at hk;cases hk
    ·obtain ⟨c',cI⟩:=iF y cK
     have:=cQ y c' cI
     rw [l9] at this
     cases this
     refine .inr ⟨?_,c,cI,?_⟩
     ·rcases e3 with e3|e3|e3
      ·exact absurd (A6 S e3) iG
      ·exact .inl e3
      ·exact .inr e3
     ·obtain ⟨o,ho,hd⟩:=dQ
      exact ⟨o,old c o ho,hd⟩
  ·obtain ⟨v,o,ho,hd⟩:=I2.cell y c (cQ y c hy)
   exact ⟨v,o,old c o ho,hd⟩
  ·show (List.replicate xs.length none++U).length=(xs++M).length
   simp [I2.len,eN.1]
 have kC:∀{pl:Ac} {H':Hp},(∀p∈pl,p.1=D)->(∀b∈fp,H' b=none)->∀b∈fp,cO Y pl H' b:=λ{pl H'} br hn b hb=>by
  obtain ⟨o,ho,_⟩:=T.obj 0 _ av b hb
  refine ⟨hn b hb,λz=>?_,?_,.inl hb,(kB.exf b hb).2,λp hp z=>?_⟩
  ·exact ko (eD ho) hC z
  ·exact kB.exfs b hb
  ·have tu:p∈pl:=by simpa [Y,fP] using hp
   exact AY (eD ho) (br p tu) z
 have loop:codeAny (model X.prog X.w) X.A (.compLoop (.ListComp elt [⟨tg,iter,ifs,0⟩] scope pos) 0 (.ref it) (.ref D) (compEnvC scope cl C X.env))
   (compPost (model X.prog X.w) X.A X.xe none (EP X pins U Q) (.ref D) C) { af with heap:=aw,toks:=af.toks+([]:List (Str×Value)).length }:=by
  refine IQ (λn s'=>∃i ys H' its k,Inv Y [(D,{ cls:=.type "list", data:=.seq (its:Af).toArray k })] (List.replicate xs.length none++U) H' s'/\Vals ys its/\tn i s'.heap/\(∀b∈fp,H' b=none)/\W i n ys H') ?_ m0
   ⟨0,[],H2,[],0,I0,.nil,T.keep 0 _ _ av (λb hb o e=>old b o e),λb hb=>(du b hb).1,w0⟩
  rintro n s3 ⟨i,ys,H3,its,k,I3,rv,a_,iw,w3⟩
  have gg:∀{o:Obj},∀p∈[(D,o)],p.1=D:=λ{o} p hp=>by
   have ep:p=(D,o):=by simpa using hp
   rw [ep]
  obtain ⟨gD,nD,_,_,_⟩:=I3.pin (D,_) (y0 _ jk)
  rcases turn i n ys H3 w3 with ⟨stop,hz,q⟩|⟨go,hz,step⟩
  ·refine aU (T.done Y rfl rfl rfl hc i _ s3 _ H3 E' I3 (kC gg iw) a_ stop) λr s4 ⟨hr,I4⟩=>?_
   subst hr
   obtain ⟨tD,kD,_,_,_⟩:=I4.pin (D,_) (y0 _ jk)
   obtain ⟨m4,tE,_⟩:=id I4.loc
   refine ⟨m4,tE,λh' dv=>?_⟩
   refine ⟨.ref D,upd H3 D (.lst ys),?_,rfl,q D kD⟩
   have gF:∀{b:Addr} {u:HO},H3 b=some u->b≠C:=λe z=>by
    have:H3 C=none:=I4.free
    rw [z,this] at e;cases e
   refine I2.call' (s':={ s4 with heap:=h' }) (ch:=fp) (H':=upd H3 D (.lst ys)) I4.os ?_ ?_ I4.bare λb hb=>⟨(du b hb).2.2.2.1,(du b hb).2.1,(du b hb).2.2.2.2.1,(du b hb).2.2.2.2.2⟩
   ·have B:=I4.base
    have kE:∀{b:Nat} {o:Obj},af.heap.get? b=some o->b≠C:=λe z=>ko (eD e) hC z
    have kF:∀{b:Addr} {u:HO},H3 b=some u->b≠D:=λe z=>by rw [z,kD] at e;cases e
    refine ⟨λb o e nn hb hx=>(dv.2 b (kE e)).trans (B.keep b o e nn hb hx),λb o e nn hb hx=>?_,λb o e nn hx=>?_,λb o e hx=>?_,λb xs e=>?_,λb o u e=>?_,λb ps e=>?_⟩
    ·obtain ⟨sl,z⟩:=B.slot b o e nn hb hx
     exact ⟨sl,(dv.2 b (kE e)).trans z⟩
    ·have tF:b≠D:=yz (eD e)
     rw [zW tF]
     exact B.free b o e nn hx
    ·obtain ⟨o',z⟩:=B.there b o e hx
     exact ⟨o',(dv.2 b (kE e)).trans z⟩
    ·have z:=B.tups b xs e
     rw [zW (kF z)];exact z
    ·have z:=B.frzs b o u e
     rw [zW (kF z)];exact z
    ·obtain ⟨more,z⟩:=B.tbls b ps e
     exact ⟨more,by rw [zW (kF z)];exact z⟩
   ·intro a o e
    by_cases ha:a=D
    ·subst ha
     rw [yx] at e
     cases e
     exact ⟨hz,its,k,rv,(dv.2 _ gH).trans tD⟩
    ·rw [zW ha] at e
     have eX:∀b u,H3 b=some u->(upd H3 D (.lst ys)) b=some u:=λb u z=>by
      have hb:b≠D:=λw=>by rw [w,kD] at z;cases z
      rw [zW hb];exact z
     refine (I4.hok a o e).stay (λb u hb z=>(dv.2 b ?_).trans z) (λb z=>eX b _ z) λb xs z=>eX b _ z
     rcases hb with hb|hb
     ·rw [hb];exact gF e
     ·exact gF hb
  ·refine aU (T.item Y rfl rfl rfl hc i _ s3 _ H3 E' I3 (kC gg iw) a_ go) λr s4 ⟨u,hr,h4⟩=>?_
   subst hr
   refine aU h4 λ_ s5 ⟨z,H5,I5,r5,y5,dq,nB⟩=>?_
   have nC:=I5.pinned (kC gg nB) (T.obj _ _ dq)
   have gh:PG Y tg gt:=s9 cl C af H2 fp E'
   have tG:PE Y elt te:=PE.nox (X:=Y) (he cl C af H2 fp)
   have IU:g0 Y ifs tt:=g0.nox (X:=Y) (ku cl C af H2 fp)
   refine aU (gh _ s5 (List.replicate xs.length none++U) H5 z u _ nC r5 (step z _ y5)) λ_ s6 ⟨aG,H6,I6,own,e1,e2,q6⟩=>?_
   subst e1
   have wk:∀(j:Nat) v,(List.replicate xs.length none++U)[j]?=some (some v)->(own++U)[j]?=some (some v):=λj v e=>by
    by_cases bu:j<xs.length
    ·rw [ik (by simpa using bu),List.getElem?_replicate] at e
     simp [bu] at e
    ·rw [kf (by simp;omega)] at e
     rw [kf (by omega),e2]
     simpa using e
   have wl:(List.replicate xs.length none++U).length=(own++U).length:=by simp [e2]
   refine aU (IU _ s6 _ _ _ I6 q6) λb s7 ⟨H7,I7,q7⟩=>?_
   cases b with
   | true =>
    refine aU (tG _ s7 _ _ _ I7 q7) λuy s7 ⟨y,H7,I7,ry,m',hm,w7⟩=>?_
    obtain ⟨nP,kG,_,_,_⟩:=I7.pin (D,_) (y0 _ (lV _ jk))
    refine wpAny_list_append_plain ⟨k,nP⟩ (λh' br dv=>?_) (by rw [yV,<-rv.length];exact hz)
    obtain ⟨k',nQ⟩:=br
    have I8:Inv Y [] (own++U) H7 { s7 with heap:=h' }:=(I7.pins_of (pins':=[]) (λp hp=>nomatch hp)).turned (it:=D) (t':=s7.toks) (λb o hb e=>(dv.2 b hb).trans e) kG gH
     (.inr (by show af.heap.objs.size<=D;omega)) (λa c hy nR=>by
      obtain ⟨v',o',ho',_⟩:=I2.cell a c (cQ a c hy)
      exact yz (eD ho') nR) (λp hp=>by simp [Y,fP] at hp)
    have I9:Inv Y [] (List.replicate xs.length none++U) H7 { s7 with heap:=h' }:=I8.weak wl wk
    have dS:∀b∈fp,∃o,s5.heap.get? b=some o/\s7.heap.get? b=some o/\H7 b=none:=λb hb=>by
     obtain ⟨o,e,_⟩:=T.obj _ _ dq b hb
     have q:=I7.pin (b,o) (y0 _ (y0 _ (nA hb e)))
     exact ⟨o,e,q.1,q.2.1⟩
    have tH:∀b∈fp,b≠D:=λb hb=>by
     obtain ⟨o,ho,_⟩:=T.obj 0 _ av b hb
     exact yz (eD ho)
    have eT:its.toArray.push uy=(its++[uy]).toArray:=by simp
    rw [eT] at nQ
    refine ⟨m',hm,i+1,ys++[y],H7,its++[uy],k',I9.pins_of (fE nQ kG λv e=>by cases e),rv.append (.cons ry .nil),T.keep (i+1) _ _ dq λb hb o e=>?_,λb hb=>?_,w7⟩
    ·obtain ⟨o',e1,e2,_⟩:=dS b hb
     rw [e] at e1
     cases e1
     exact (dv.2 b (tH b hb)).trans e2
    ·obtain ⟨_,_,_,q⟩:=dS b hb
     exact q
   | false =>
    obtain ⟨m',hm,w7⟩:=q7
    obtain ⟨nP,kG,_,_,_⟩:=I7.pin (D,_) (y0 _ (lV _ jk))
    have I9:Inv Y [] (List.replicate xs.length none++U) H7 s7:=(I7.pins_of (pins':=[]) (λp hp=>nomatch hp)).weak wl wk
    have dS:∀b∈fp,∃o,s5.heap.get? b=some o/\s7.heap.get? b=some o/\H7 b=none:=λb hb=>by
     obtain ⟨o,e,_⟩:=T.obj _ _ dq b hb
     have q:=I7.pin (b,o) (y0 _ (y0 _ (nA hb e)))
     exact ⟨o,e,q.1,q.2.1⟩
    refine ⟨m',hm,i+1,ys,H7,its,k,I9.pins_of (fE nP kG λv e=>by cases e),rv,T.keep (i+1) _ _ dq λb hb o e=>?_,λb hb=>?_,w7⟩
    ·obtain ⟨o',e1,e2,_⟩:=dS b hb
     rw [e] at e1
     cases e1
     exact e2
    ·obtain ⟨_,_,_,q⟩:=dS b hb
     exact q
 exact codeAny_compStart_list loop (T.self X.A 0 _ _ _ (T.keep 0 _ _ av (λb hb o e=>old b o e)) loop)
def tI {X:Cx} {elt iter tg:Expr} {ifs:List Expr} {xs:Ad} {pos:Pos} {scope:Scope} {wi:TI} {gt:TG} {tt:TT} {te:TE} {N:Ad} (hc:X.calm=true) (S:c5 X.env.scope scope xs) (eN:X.N=N) (cm:((".0" : Str)::(xs++N)).Nodup)
  (hi:PI X tg iter wi) (s9:∀cl C af ah fp E,PG (eB X scope cl xs C af ah fp E) tg gt) (ku:∀cl C af ah fp,g0 (eB X scope cl xs C af ah fp (λ_ _=>False)) ifs tt) (he:∀cl C af ah fp,PE (eB X scope cl xs C af ah fp (λ_ _=>False)) elt te)
  (hs:∀v,foldedSetIterable iter X.env v=pure v:=by intro _;rfl):PE X (.ListComp elt [⟨tg,iter,ifs,0⟩] scope pos) (sZ wi gt tt te xs.length) :=
 A9 (M:=X.N) hc S Hid.refl (by rw [eN];exact cm) hi s9 ku he hs
def IV {X:Cx} {elt iter:Expr} {x:Str} {px pos:Pos} {scope:Scope} {wi:TI} {te:TE} {M:Ad} (hc:X.calm=true) (S:cZ X.env.scope scope x) (eN:Hid scope M X.N) (cm:((".0" : Str)::x::M).Nodup)
  (hi:PI X (.Name x px) iter wi) (he:∀cl C af ah fp,PE (iD X M scope cl x C af ah fp (λ_ _=>False)) elt te)
  (hs:∀v,foldedSetIterable iter X.env v=pure v:=by intro _;rfl):PE X (.ListComp elt [⟨.Name x px,iter,[],0⟩] scope pos) (A5 wi te):=by
 have hN:([x]++M).Nodup:=(jQ.mp cm).2
 have S':c5 X.env.scope scope [x]:=⟨S.kind,S.ncell,λy hy h=>⟨(S.names y hy h).1,(S.names y hy h).2.imp (λe=>by rw [e];exact List.mem_singleton_self _) id⟩,S.free⟩
 have gh:∀cl C af ah fp E,PG (fP X M scope cl [x] C af ah fp E) (.Name x px) (wb 0):=λcl C af ah fp E=>wB (X:=fP X M scope cl [x] C af ah fp E) (i:=0) hN rfl (.inl (jO S.hx)) (.inr (jO S.hx))
 have e:∀U Q,(λJ H1=>kq J te U Q H1)=λJ H1=>g6 J (wb 0) mi te 1 U Q H1:=λU Q=>by
  funext J H1
  exact propext (exists_congr λW=>and_congr Iff.rfl (forall_congr' λi=>forall_congr' λm=>forall_congr' λys=>forall_congr' λH=>imp_congr Iff.rfl (or_congr Iff.rfl (and_congr Iff.rfl (and_congr Iff.rfl (forall_congr' λz=>forall_congr' λH'=>imp_congr Iff.rfl
   ⟨λh=>⟨[some z],rfl,rfl,h⟩,λ⟨_,_,_,h⟩=>h⟩))))))
 intro pins s U H Q I h
 refine A9 (te:=te) (tt:=mi) hc S' eN cm hi gh (λcl C af ah fp=>A7) (λcl C af ah fp=>he cl C af ah fp) hs pins s U H Q I ?_
 show wi U H λJ H1=>g6 J (wb 0) mi te 1 U Q H1
 rw [<-e]
 exact h
end L2
namespace L2
open PySem PySem.Spec PyProof.Rows
def tJ (z:Str):It:=⟨λi _=>i<z.cps.size,λi H v H'=>H'=H/\∃c,z.cps[i]?=some c/\v=.str ⟨#[c]⟩,λi _=>z.cps.size<=i⟩
def Ba {P:Program} {w:World} {K:PySem.W.Frag} {tg:Expr} (z:Str) (t:Tok) (it:Addr) (ty:String) (mf:ty = "str_ascii_iterator" \/ ty = "str_iterator"):Turn P w K tg (tJ z) [it] it (λi h=>h.IsStrIter it ty z t i) where
 mem:=by simp
 obj:=λi h st b hb=>by
  have e:b=it:=by simpa using hb
  subst e
  obtain ⟨o,e,c,d⟩:=st
  exact ⟨o,e,λv z=>by rw [d] at z;cases z⟩
 keep:=λi h h' st k=>by
  obtain ⟨o,e,r⟩:=st
  exact ⟨o,k it (by simp) o e,r⟩
 item:=by
  intro X hP hw hK hc i pins s U H E I hf st hg
  subst hP hw hK
  obtain ⟨f0,f1,f2,f3,f4,f5⟩:=hf it (by simp)
  have W:Walks X.prog X.w X.A it [it] [it] z.cps.size (SignAt z) (λi h=>h.IsStrIter it ty z t i):=by
   rcases mf with e|e
   ·rw [e];exact Walks.strAscii (I.ok.hd hc) it z t
   ·rw [e];exact Walks.strWide (I.ok.hd hc) it z t
  refine W.item i s _ _ hg st λv h' tk hv bC kk=>?_
  obtain ⟨c,u,IW,rfl⟩:=hv
  have I1:Inv X pins U H { s with heap:=h',toks:=tk }:=I.turned (λb o hb e=>kk b o (by simpa using hb) e) f0 f1 f3 f4 f5
  obtain ⟨o,e,cc,d⟩:=id bC
  exact ⟨_,rfl,pU (s:={ s with heap:=h',toks:=tk }) e cc d (by rcases mf with e|e<;>rw [e]<;>decide) ⟨.str ⟨#[c]⟩,H,I1,⟨u,rfl⟩,⟨rfl,c,IW,rfl⟩,bC,λb hb=>(hf b hb).1⟩⟩
 done:=by
  intro X hP hw hK hc i pins s U H E I hf st hg
  subst hP hw hK
  obtain ⟨f0,f1,f2,f3,f4,f5⟩:=hf it (by simp)
  have hn:z.cps[i]?=none:=by
   have IY:z.cps.size<=i:=hg
   simpa using IY
  rcases mf with e|e
  ·rw [e] at st
   exact wpAny_pyNext_ascii_end (I.ok.hd hc) st hn λh' eb=>⟨rfl,I.turned (t':=s.toks) (λb o hb e=>eb b o hb e) f0 f1 f3 f4 f5⟩
  ·rw [e] at st
   exact wpAny_pyNext_wide_end (I.ok.hd hc) st hn λh' eb=>⟨rfl,I.turned (t':=s.toks) (λb o hb e=>eb b o hb e) f0 f1 f3 f4 f5⟩
 self:=λA i s Q E st h=>by
  rcases mf with e|e
  ·rw [e] at st;exact wpAny_pyIter_striter_ascii st h
  ·rw [e] at st;exact wpAny_pyIter_striter_wide st h
section
variable {X:Cx}
def IZ:gY X (λx lo hi H Q=>∃z,x=.str z/\z.length<=sizeLine/\Q (.str (Txt.slice z lo hi)) H):=by
 intro pins s U H x v vl vu lo hi sl Q I rx hs pl pu h
 obtain ⟨z,rfl,hz,q⟩:=h
 obtain ⟨t,rfl⟩:=rx
 refine ⟨"str", _,F.slot_str_getitem.lookup,typeIs_str _ _ _,?_⟩
 have fin:∀t' k,EP X pins U Q (.str (Txt.slice z lo hi) t') { s with toks:=k }:=λt' k=>⟨.str _,H,I.tok _,⟨_,rfl⟩,q⟩
 cases pl with
 | none =>
  cases pu with
  | none=>exact wpAny_getItem_str_slice (l:=none) (u:=none) (st:=none) hs rfl (post_val_or_str ⟨y6 (Txt.slice_le z _ _) hz,fin⟩)
  | int j uj=>exact wpAny_getItem_str_slice (l:=none) (u:=some (j,uj)) (st:=none) hs rfl (post_val_or_str ⟨y6 (Txt.slice_le z _ _) hz,fin⟩)
 | int i ui =>
  cases pu with
  | none=>exact wpAny_getItem_str_slice (l:=some (i,ui)) (u:=none) (st:=none) hs rfl (post_val_or_str ⟨y6 (Txt.slice_le z _ _) hz,fin⟩)
  | int j uj=>exact wpAny_getItem_str_slice (l:=some (i,ui)) (u:=some (j,uj)) (st:=none) hs rfl (post_val_or_str ⟨y6 (Txt.slice_le z _ _) hz,fin⟩)
theorem cS:∀{ys:Ad}{us:Af},Vals (ys.map V.str) us->StrsAre us ys
 | [],us,r=>by rw [List.map_nil] at r;cases r;exact .nil
 | y::ys,us,r=>by
  rw [yQ] at r
  cases r with
  | cons r1 r2 =>
   obtain ⟨t,e⟩:=r1
   subst e
   exact .cons y t (cS r2)
def I_:AD X "str.join" (λx xs H Q=>∃(z:Str) (a:Addr) (ys:Ad),x=.str z/\xs=[.ref a]/\bo X.K H a (ys.map V.str)/\(ys.map (·.length)).sum+ys.length*z.length<=16777216/\Q (.str (Txt.join z ys)) H):=by
 intro pins s U H x xs v us Q I rx r h
 obtain ⟨z,a,ys,rfl,rfl,hl,hz,q⟩:=h
 obtain ⟨t,rfl⟩:=rx
 obtain ⟨u,rfl,ru⟩:=iA r
 cases ru
 obtain ⟨its,rv,pl,_⟩:=I.list hl
 exact join_list pl.isList (by simpa using cS rv) hz λt' k=>⟨.str _,H,I.tok _,⟨_,rfl⟩,q⟩
def Ja:ba X (compareOp .In) (λx y H Q=>∃(c:Nat) (z:Str),x=.str ⟨#[c]⟩/\y=.str z/\Q (.bl (decide (c∈z.cps.toList))) H):=by
 intro pins s U H x y v u Q I rx ry h
 obtain ⟨c,z,rfl,rfl,q⟩:=h
 refine Hn pins s U H _ _ v u Q I rx ry ⟨_,_,rfl,rfl,?_⟩
 rw [StrLaws.found_one]
 exact q
end
section
variable {κ:Type} [DecidableEq κ]
def cT (kvs:List (κ×V)) (k:κ):Option V:=(kvs.find? λkv=>decide (kv.1=k)).map (·.2)
def putK (kvs:List (κ×V)) (k:κ) (v:V):List (κ×V) :=
 if (kvs.any λkv=>decide (kv.1=k))=true then kvs.map (λkv=>if kv.1=k then (kv.1,v) else kv) else kvs++[(k,v)]
def qc {p:κ×V}{r:List (κ×V)}{k:κ}(e:p.1=k):cT (p::r) k=some p.2:=by simp [cT,List.find?_cons,e]
def qd {p:κ×V}{r:List (κ×V)}{k:κ}(e:¬p.1=k):cT (p::r) k=cT r k:=by simp [cT,List.find?_cons,e]
theorem Bb (k:κ):∀kvs:List (κ×V),(kvs.any λkv=>decide (kv.1=k))=(cT kvs k).isSome
 | []=>rfl
 | p::r=>by
  rw [List.any_cons]
  by_cases e:p.1=k
  ·simp only [qc e,il e,Bool.true_or,Option.isSome_some]
  ·rw [qd e,jR e,Bool.false_or];exact Bb k r
theorem Bc (kvs:List (κ×V)) (k:κ) (v:V):(putK kvs k v).length<=kvs.length+1:=by
 unfold putK
 split
 ·rw [jZ];omega
 ·rw [ig,wz,List.length_nil];omega
def b_.isSome_eq {o:Option V}{u:Option Value}(r:b_ o u):o.isSome=u.isSome:=by
 cases o with
 | none=>cases u with
  | none=>rfl
  | some _=>exact (show False from r).elim
 | some _=>cases u with
  | none=>exact (show False from r).elim
  | some _=>rfl
def KV.val {kvs:List (κ×V)}{vs:List (κ×Value)}(r:KV kvs vs) (k:κ):b_ (cT kvs k) (valueAt vs k):=by
 unfold KV at r
 induction r with
 | nil=>exact True.intro
 | @cons p q ps qs h t ih =>
  obtain ⟨h1,h2⟩:=h
  by_cases e:p.1=k
  ·have e':q.1=k:=h1.symm.trans e
   have b:valueAt (q::qs) k=some q.2:=by simp [valueAt,List.find?_cons,e']
   rw [qc e,b];exact h2
  ·have e':¬q.1=k:=λz=>e (h1.trans z)
   have b:valueAt (q::qs) k=valueAt qs k:=by simp [valueAt,List.find?_cons,e']
   rw [qd e,b];exact ih
def KV.any {kvs:List (κ×V)}{vs:List (κ×Value)}(r:KV kvs vs) (k:κ):(kvs.any λkv=>decide (kv.1=k))=vs.any λkv=>decide (kv.1=k):=by
 unfold KV at r
 induction r with
 | nil=>rfl
 | cons h t ih=>rw [List.any_cons,List.any_cons,ih,h.1]
def KV.repl {kvs:List (κ×V)}{vs:List (κ×Value)}(r:KV kvs vs) (k:κ) {y:V}{u:Value}(ry:RelV y u) :
  KV (kvs.map λkv=>if kv.1=k then (kv.1,y) else kv) (vs.map λkv=>if kv.1=k then (kv.1,u) else kv):=by
 unfold KV at r ⊢
 induction r with
 | nil=>exact .nil
 | @cons p q ps qs h t ih =>
  rw [yQ,yQ]
  refine .cons ?_ ih
  obtain ⟨h1,h2⟩:=h
  by_cases e:p.1=k
  ·rw [zu e,zu (h1.symm.trans e)];exact ⟨h1,ry⟩
  ·rw [zF e,zF (λz=>e (h1.trans z))];exact ⟨h1,h2⟩
def KV.put {kvs:List (κ×V)}{vs:List (κ×Value)}(r:KV kvs vs) (k:κ) {y:V}{u:Value}(ry:RelV y u):KV (putK kvs k y) (stored vs k u):=by
 unfold putK stored
 rw [r.any k]
 by_cases e:(vs.any λkv=>decide (kv.1=k))=true
 ·rw [zu e,zu e];exact r.repl k ry
 ·rw [zF e,zF e];exact Paired.snoc r ⟨rfl,ry⟩
def KV.keys {kvs:List (κ×V)}{vs:List (κ×Value)}(r:KV kvs vs):kvs.map (·.1)=vs.map (·.1):=by
 unfold KV at r
 induction r with
 | nil=>rfl
 | cons h t ih=>rw [yQ,yQ,ih,h.1]
def KV.length {kvs:List (κ×V)}{vs:List (κ×Value)}(r:KV kvs vs):kvs.length=vs.length:=Paired.length r
end
def nS {P:Program}{w:World}{k:Key}{u:Value}(r:RelV (kV k) u):(aY P w).is k u=true:=by
 cases k with
 | inl i=>obtain ⟨t,e⟩:=(show ∃t,u=Value.int i t from r);subst e;exact FX P w i t
 | inr x=>obtain ⟨t,e⟩:=(show ∃t,u=Value.str x t from r);subst e;exact FY P w x t
theorem tK {P:Program}{w:World}:∀{ks:List Key}{us:Af},Vals (ks.map kV) us->ItemsAre (aY P w) ks us
 | [],_,r=>by rw [List.map_nil] at r;cases r;exact .nil
 | k::ks,_,r=>by
  rw [yQ] at r
  cases r with
  | cons h t=>exact .cons (nS h) (tK t)
abbrev KT (H:Hp):List (List Key×V)->List (List Key×Addr×Value)->Prop:=Paired λp q=>p.1=q.1/\H q.2.1=some (.tup (p.1.map kV))/\RelV p.2 q.2.2
def KT.val {H:Hp}{kvs:List (List Key×V)}{xs:List (List Key×Addr×Value)}(r:KT H kvs xs) (k:List Key):b_ (cT kvs k) ((atKey xs k).map (·.2)):=by
 induction r with
 | nil=>exact True.intro
 | @cons p q ps qs h t ih =>
  obtain ⟨h1,_,h2⟩:=h
  by_cases e:p.1=k
  ·have e':q.1=k:=h1.symm.trans e
   have b:atKey (q::qs) k=some q.2:=by simp [atKey,List.find?_cons,e']
   rw [qc e,b];exact h2
  ·have e':¬q.1=k:=λz=>e (h1.trans z)
   have b:atKey (q::qs) k=atKey qs k:=by simp [atKey,List.find?_cons,e']
   rw [qd e,b];exact ih
def KT.repl {H:Hp}{kvs:List (List Key×V)}{xs:List (List Key×Addr×Value)}(r:KT H kvs xs) (k:List Key) {y:V}{u:Value}(ry:RelV y u) :
  KT H (kvs.map λkv=>if kv.1=k then (kv.1,y) else kv) (xs.map (putAt k u)):=by
 induction r with
 | nil=>exact .nil
 | @cons p q ps qs h t ih =>
  rw [yQ,yQ]
  refine .cons ?_ ih
  obtain ⟨h1,h2,h3⟩:=h
  unfold putAt
  by_cases e:p.1=k
  ·rw [zu e,zu (h1.symm.trans e)];exact ⟨h1,h2,ry⟩
  ·rw [zF e,zF (λz=>e (h1.trans z))];exact ⟨h1,h2,h3⟩
def KT.put {H:Hp}{kvs:List (List Key×V)}{xs:List (List Key×Addr×Value)}(r:KT H kvs xs) (k:List Key) {b:Addr}{y:V}{u:Value}(hb:H b=some (.tup (k.map kV))) (ry:RelV y u) :
  KT H (putK kvs k y) (storedH xs k b u):=by
 have e:(kvs.any λkv=>decide (kv.1=k))=(atKey xs k).isSome:=by
  rw [Bb,(r.val k).isSome_eq,Option.isSome_map]
 unfold putK storedH
 rw [e]
 by_cases q:(atKey xs k).isSome=true
 ·rw [zu q,zu q];exact r.repl k ry
 ·rw [zF q,zF q];exact Paired.snoc r ⟨rfl,hb,ry⟩
def KT.keeps {H H':Hp}{kvs:List (List Key×V)}{xs:List (List Key×Addr×Value)}(r:KT H kvs xs) (ht:∀b ys,H b=some (.tup ys)->H' b=some (.tup ys)):KT H' kvs xs :=
 Paired.mapP r λ_ _ z=>⟨z.1,ht _ _ z.2.1,z.2.2⟩
section
variable {P:Program}{w:World}{H:Hp}{h:Heap}{a:Addr}
def Bd {u:HO}(ok:bR P w H h) (e:Rd H a u):aZ P w H h a u:=e.ok ok
def jw {kvs:List (Key×V)}(ok:bR P w H h) (e:Rd H a (.dK kvs)):kvs.length<=sizeLine/\(a==sysModules)=false/\∃vs,KV kvs vs/\h.DictOf (aY P w) a vs :=
 show aZ P w H h a (.dK kvs) from Bd ok e
def tL {kvs:List (Key×V)}(ok:bR P w H h) (e:H a=some (.dK kvs)):kvs.length<=sizeLine/\(a==sysModules)=false/\∃vs,KV kvs vs/\h.DictOf (aY P w) a vs:=jw ok (.inl e)
def nU {ks:List Key}(ok:bR P w H h) (e:H a=some (.tup (ks.map kV))):(tupleKind (aY P w)).is h ks a:=by
 obtain ⟨_,its,r,o,h1,h2,n,h3⟩:=(show aZ P w H h a (.tup (ks.map kV)) from ok a _ e)
 exact ⟨o,its.toArray,n,h1,h2,h3,by simpa using tK r⟩
def nW {kvs:List (List Key×V)}(ok:bR P w H h) (e:Rd H a (.dT kvs)):kvs.length<=sizeLine/\(a==sysModules)=false /\
  ∃xs,KT H kvs xs/\h.DictOfH (tupleKind (aY P w)) a xs:=by
 obtain ⟨z,y,xs,r,o,es,ep,h1,h2,h3,h4,h5⟩:=(show aZ P w H h a (.dT kvs) from Bd ok e)
 refine ⟨z,y,xs,r,o,es,ep,h1,h2,h3,h4,λx hx=>?_,h5⟩
 have all:∀{l:List (List Key×V)} {m:List (List Key×Addr×Value)},KT H l m->∀x∈m,(tupleKind (aY P w)).is h x.1 x.2.1:=by
  intro l m q
  induction q with
  | nil=>intro x hx;exact nomatch hx
  | @cons p q ps qs hq t ih =>
   intro x hx
   rcases yE.mp hx with e|hx
   ·subst e
    exact nU ok (by rw [<-hq.1];exact hq.2.1)
   ·exact ih x hx
 exact all r x hx
def Jb {kvs:List (List Key×V)}(ok:bR P w H h) (e:H a=some (.dT kvs)):kvs.length<=sizeLine/\(a==sysModules)=false /\
  ∃xs,KT H kvs xs/\h.DictOfH (tupleKind (aY P w)) a xs:=nW ok (.inl e)
end
def dC (H:Hp) (a:Addr) (y:V) (r:Option V):Prop :=
 (∃kvs k,Rd H a (.dK kvs)/\y=kV k/\r=cT kvs k)\/∃kvs k b,Rd H a (.dT kvs)/\y=.ref b/\H b=some (.tup (k.map kV))/\r=cT kvs k
def dD (H:Hp) (a:Addr) (y v:V) (H':Hp):Prop :=
 (∃kvs k,H a=some (.dK kvs)/\y=kV k/\kvs.length<sizeLine/\H'=upd H a (.dK (putK kvs k v))) \/
 ∃kvs k b,H a=some (.dT kvs)/\y=.ref b/\H b=some (.tup (k.map kV))/\kvs.length<sizeLine/\H'=upd H a (.dT (putK kvs k v))
def dC.k {H:Hp}{a:Addr}{kvs:List (Key×V)}{k:Key}(e:H a=some (.dK kvs)):dC H a (kV k) (cT kvs k):=.inl ⟨kvs,k,.inl e,rfl,rfl⟩
def dC.t {H:Hp}{a b:Addr}{kvs:List (List Key×V)}{k:List Key}(e:H a=some (.dT kvs)) (eb:H b=some (.tup (k.map kV))):dC H a (.ref b) (cT kvs k):=.inr ⟨kvs,k,b,.inl e,rfl,eb,rfl⟩
def dD.k {H:Hp}{a:Addr}{kvs:List (Key×V)}{k:Key}{v:V}(e:H a=some (.dK kvs)) (hl:kvs.length<sizeLine):dD H a (kV k) v (upd H a (.dK (putK kvs k v))):=.inl ⟨kvs,k,e,rfl,hl,rfl⟩
def dD.t {H:Hp}{a b:Addr}{kvs:List (List Key×V)}{k:List Key}{v:V}(e:H a=some (.dT kvs)) (eb:H b=some (.tup (k.map kV))) (hl:kvs.length<sizeLine) :
  dD H a (.ref b) v (upd H a (.dT (putK kvs k v))):=.inr ⟨kvs,k,b,e,rfl,eb,hl,rfl⟩
section
variable {X:Cx}{pins:Ac}{U:St}{H:Hp}{s:Shared}{a:Addr}{y v:V}{u r:Value}{o:Option V}{A:Around}{E:Aa}
def Inv.big (I:Inv X pins U H s):sysModules<s.heap.objs.size:=by
 have h:mainGlobals<s.heap.objs.size:=(I.mod.glob.keeps I.bk).lt
 exact Nat.lt_trans (by decide) h
def Jc {Q:Aa}(hu:A.units+1<cLine) (I:Inv X pins U H s) (g:dC H a y (some v)) (ry:RelV y u) (h:∀w' s',Inv X pins U H s'->RelV v w'->Q w' s') :
  wpAny (model X.prog X.w) A (getItem (.ref a) u) Q E s:=by
 rcases g with ⟨kvs,k,e,ey,l⟩|⟨kvs,k,b,e,ey,eb,l⟩
 ·subst ey
  obtain ⟨z,hd,vs,rel,dd⟩:=jw I.hok e
  obtain ⟨w',hw,c9⟩:=b_.some_of (v:=v) (o:=valueAt vs k) (by rw [l];exact rel.val k)
  exact wpAny_getItem_of (nS ry) dd.mapOf hw (h w' _ (I.tok _) c9)
 ·subst ey
  cases (show u=Value.ref b from ry)
  obtain ⟨z,hd,xs,rel,dd⟩:=nW I.hok e
  obtain ⟨w',hw,c9⟩:=b_.some_of (v:=v) (o:=(atKey xs k).map (·.2)) (by rw [l];exact rel.val k)
  obtain ⟨p,hp,nX⟩:=Option.map_eq_some_iff.mp hw
  refine wpAny_getItem_heap (tupleKind_room_in1 hu) (nU I.hok eb) dd hp ?_
  rw [nX]
  exact h w' _ (I.tok _) c9
def Jd {Q:Aa}(hu:A.units+1<cLine) (I:Inv X pins U H s) (g:dC H a y o) (ry:RelV y u) (h:∀s',Inv X pins U H s'->Q (.bool o.isSome) s') :
  wpAny (model X.prog X.w) A (compareOp .In u (.ref a)) Q E s:=by
 rcases g with ⟨kvs,k,e,ey,l⟩|⟨kvs,k,b,e,ey,eb,l⟩
 ·subst ey
  obtain ⟨z,hd,vs,rel,dd⟩:=jw I.hok e
  refine wpAny_in_of (nS ry) hd dd.mapOf ?_
  rw [<-(rel.val k).isSome_eq,<-l]
  exact h _ (I.tok _)
 ·subst ey
  cases (show u=Value.ref b from ry)
  obtain ⟨z,hd,xs,rel,dd⟩:=nW I.hok e
  refine wpAny_in_heap (tupleKind_room_in1 hu) (nU I.hok eb) hd dd ?_
  have q:=(rel.val k).isSome_eq
  rw [Option.isSome_map] at q
  rw [<-q,<-l]
  exact h _ (I.tok _)
def Je {Q:Aa}(hu:A.units+1<cLine) (I:Inv X pins U H s) (g:dC H a y o) (ry:RelV y u) (h:∀s',Inv X pins U H s'->Q (.bool (!o.isSome)) s') :
  wpAny (model X.prog X.w) A (compareOp .NotIn u (.ref a)) Q E s:=by
 rcases g with ⟨kvs,k,e,ey,l⟩|⟨kvs,k,b,e,ey,eb,l⟩
 ·subst ey
  obtain ⟨z,hd,vs,rel,dd⟩:=jw I.hok e
  refine wpAny_notIn_of (nS ry) hd dd.mapOf ?_
  rw [<-(rel.val k).isSome_eq,<-l]
  exact h _ (I.tok _)
 ·subst ey
  cases (show u=Value.ref b from ry)
  obtain ⟨z,hd,xs,rel,dd⟩:=nW I.hok e
  refine wpAny_notIn_heap (tupleKind_room_in1 hu) (nU I.hok eb) hd dd ?_
  have q:=(rel.val k).isSome_eq
  rw [Option.isSome_map] at q
  rw [<-q,<-l]
  exact h _ (I.tok _)
def tN {h':Heap}{t':Nat}{ob:HO}(I:Inv X pins U H s) (mu:ng (H a)) (hs:Heap.SameBut a s.heap h') (he:∃q,h'.get? a=some q) (new:aZ X.prog X.w (upd H a ob) h' a ob) :
  Inv X pins U (upd H a ob) { s with heap:=h',toks:=t' } :=
 I.write (x:=a) (e:=a) mu (.inl rfl) (λb q hb z=>(hs.2 b hb).trans z) he new
def Be {P:Program}{w:World}{H':Hp}{h':Heap}{kvs:List (Key×V)}{vs:List (Key×Value)}(z:kvs.length<=sizeLine) (hd:(a==sysModules)=false) (rel:KV kvs vs) (dd:h'.DictOf (aY P w) a vs) :
  aZ P w H' h' a (.dK kvs):=⟨z,hd,vs,rel,dd⟩
theorem tO {H':Hp}{Q:Unit->Shared->Prop}(hu:A.units+1<cLine) (I:Inv X pins U H s) (g:dD H a y v H') (ry:RelV y u) (rv:RelV v r) (h:∀s',Inv X pins U H' s'->Q () s') :
  wpAny (model X.prog X.w) A (setItem (.ref a) u r) Q E s:=by
 rcases g with ⟨kvs,k,e,ey,l,eH⟩|⟨kvs,k,b,e,ey,eb,l,eH⟩
 ·subst ey eH
  obtain ⟨z,hd,vs,rel,dd⟩:=tL I.hok e
  have hz:vs.length<=sizeLine:=by rw [<-rel.length];exact z
  have hl:(putK kvs k v).length<=sizeLine:=by have:=Bc kvs k v;omega
  refine wpAny_setItem_pairs (hsz:=hz) (nS ry) dd λh' kH hs=>h _ ?_
  have he:∃q,h'.get? a=some q:=let ⟨q,_,_,hq,_⟩:=kH;⟨q,hq⟩
  exact tN I (by rw [e];exact True.intro) hs he (Be hl hd (rel.put k rv) kH)
 ·subst ey eH
  cases (show u=Value.ref b from ry)
  obtain ⟨z,hd,xs,rel,dd⟩:=Jb I.hok e
  have hz:xs.length<=sizeLine:=by rw [<-Paired.length rel];exact z
  have hl:(putK kvs k v).length<=sizeLine:=by have:=Bc kvs k v;omega
  refine wpAny_setItem_heap (hsz:=hz) (tupleKind_room_in1 hu) (nU I.hok eb) dd λh' kH hs=>h _ ?_
  obtain ⟨q,es,ep,hq,h2,h3,h4,_,h5⟩:=kH
  refine tN I (by rw [e];exact True.intro) hs ⟨q,hq⟩ ⟨hl,hd,_,(rel.put k eb rv).keeps λc ys ec=>?_,q,es,ep,hq,h2,h3,h4,h5⟩
  rw [zW (F0 ec e (λz=>nomatch z))]
  exact ec
end
section
variable {X:Cx}{pins:Ac}{U:St}{H:Hp}{s:Shared}{a:Addr}{kvs:List (Key×V)}{k:Key}{u:Value}{A:Around}{E:Aa}
theorem Jf {Q:Aa} (I:Inv X pins U H s) (e:Rd H a (.dK kvs)) (h:∀t s',Inv X pins U H s'->Q (.int kvs.length t) s'):wpAny (model X.prog X.w) A (call (.builtin "len") [.ref a]) Q E s:=by
 obtain ⟨z,hd,vs,rel,dd⟩:=jw I.hok e
 refine call_len_dict hd dd (by rw [<-rel.length];rw [sizeLine_eq] at z;omega) ?_
 rw [<-rel.length]
 exact h _ _ (I.tok _)
end
def Jg {X:Cx} {pins:Ac} {U:St} {H:Hp} {s:Shared} {a:Addr} {y:V} {o:Option V} (I:Inv X pins U H s) (g:dC H a y o):s.TypeIs (.ref a) "dict" := by
 rcases g with ⟨kvs,k,e,_,_⟩|⟨kvs,k,b,e,_,_,_⟩
 ·obtain ⟨_,_,vs,_,dd⟩:=jw I.hok e
  exact dd.typeIs
 ·obtain ⟨_,_,xs,_,dd⟩:=nW I.hok e
  exact dd.typeIs
def Jh (td ty tv:TE):TS:=λD U H=>tv U H λv H1=>td U H1 λx H2=>ty U H2 λy H3=>∃a H4,x=.ref a/\dD H3 a y v H4/\D.nx U H4
section
variable {X:Cx}{o i e value:Expr}{pos pos' xZ:Pos}{td ty tv:TE}
def Ji (hu:X.A.units+1<cLine) (ho:PE X o td) (hi:PE X i ty) (hv:PE X value tv) (hs:swapsWith value (some (.Subscript o i pos')) pos.line X.env=pure false) :
  PS X (.Assign [.Subscript o i pos'] value pos) (Jh td ty tv):=by
 intro pins s U H D I h
 refine wpAny_Assign_Subscript (aU (hv pins s U H _ I h) λr s1 ⟨v,H1,I1,rv,q1⟩=>aU (ho pins s1 U H1 _ I1 q1) λu s2 ⟨x,H2,I2,rx,q2⟩=>aU (hi pins s2 U H2 _ I2 q2) λiv s3 ⟨y,H3,I3,ry,a,H4,ex,g,q3⟩=>?_) hs
 subst ex
 obtain rfl:u=Value.ref a:=rx
 exact tO hu I3 g ry rv λs4 I4=>⟨U,H4,I4,q3⟩
end
def Jj {P:Program} {w:World} {H:Hp} (h:Heap) (hb:sysModules<h.objs.size):aZ P w H (h.push { cls:=.type "dict", data:=.dict #[] }) h.objs.size (.dK []) :=
 ⟨jc _,beq_eq_false_iff_ne.mpr (yD (yz hb)),[],.nil,Heap.DictOf.new h⟩
def Jk:TE:=λ_ H Q=>∀p,H p=none->Q (.ref p) (upd H p (.dK []))
section
variable {X:Cx}{pos:Pos}
def Jl:PE X (.Dict [] [] pos) Jk:=λpins s U H Q I h =>
 wpAny_Dict_empty ⟨.ref s.heap.objs.size,_,I.laid (a:=s.heap.objs.size) (o:=.dK []) (t':=s.toks) (λ_ _ q=>zZ _ q) (yd _) (Jj s.heap I.big),rfl,h _ (I.hok.fresh (yd _))⟩
end
structure M1 (X:Cx) (o:Expr) (m:Str) (apos:Pos) (e:Expr) (a0:Pos):Prop where
 base:attributeBase o m X.env (eval o X.env)=eval o X.env
 few:((backTo a0 (starEach [e] X.env)).all (λx=>!x.1)&&(backToKw a0 (keywordEach [] X.env)).all (λx=>x.1.isSome)
  && decide (([e]:List Expr).length+([]:List Keyword).length+(if ([]:List Keyword).isEmpty then 0 else 1)<30))=true
 line:(apos.endLine==a0.line)=true
 trees:backTo a0 (starEach [e] X.env)=[(false,eval e X.env)]
structure M2 (X:Cx) (o:Expr) (m:Str) (apos:Pos) (e f:Expr) (a0:Pos):Prop where
 base:attributeBase o m X.env (eval o X.env)=eval o X.env
 few:((backTo a0 (starEach [e,f] X.env)).all (λx=>!x.1)&&(backToKw a0 (keywordEach [] X.env)).all (λx=>x.1.isSome)
  && decide (([e,f]:List Expr).length+([]:List Keyword).length+(if ([]:List Keyword).isEmpty then 0 else 1)<30))=true
 line:(apos.endLine==a0.line)=true
 trees:backTo a0 (starEach [e,f] X.env)=[(false,eval e X.env),(false,eval f X.env)]
section
variable {X:Cx}{pins:Ac}{U:St}{H:Hp}{s:Shared}{a:Addr}{y d:V}{u r:Value}{o:Option V}{A:Around}{E:Aa}
end
section
variable {X:Cx}{o e f:Expr}{apos a0:Pos}{td ty tx:TE}
end
section
variable {X:Cx}{pins:Ac}{U:St}{H:Hp}{s:Shared}{a:Addr}{kvs:List (Key×V)}{A:Around}{E:Aa}
end
section
variable {X:Cx}{pins:Ac}{U:St}{H:Hp}{s:Shared}{a:Addr}{y:V}{u:Value}{A:Around}{E:Aa}
end
def XO (h:Heap) (a:Addr) (C:Value) (d:Option Addr) (head:Value):Prop :=
 ∃oe vs,h.get? a=some oe/\oe.cls=C/\oe.dict=d/\oe.data=.fields vs/\vs.size=6/\vs[1]?=some head
def TB (h:Heap) (T:Addr) (fl:Value):Prop:=∃oT ts,h.get? T=some oT/\oT.data=.fields ts/\ts[3]?=some fl
def Jm (o:Obj) (f):(o.mapFields f).dict=o.dict:=by
 obtain ⟨c,d,dt,sl⟩:=o
 cases dt<;>rfl
def XO.keeps {h h':Heap}{a:Addr}{C:Value}{d:Option Addr}{head:Value}(x:XO h a C d head) (k:∀o,h.get? a=some o->h'.get? a=some o):XO h' a C d head:=by
 obtain ⟨oe,vs,e,r⟩:=x
 exact ⟨oe,vs,k _ e,r⟩
def TB.keeps {h h':Heap}{T:Addr}{fl:Value}(x:TB h T fl) (k:∀o,h.get? T=some o->h'.get? T=some o):TB h' T fl:=by
 obtain ⟨oT,ts,e,r⟩:=x
 exact ⟨oT,ts,k _ e,r⟩
theorem XO.set1 {h:Heap}{a:Addr}{C:Value}{d:Option Addr}{head:Value}(x:XO h a C d head) (u:Value):XO (h.update a (Obj.mapFields (·.setIfInBounds 1 u))) a C d u:=by
 obtain ⟨oe,vs,e,hc,mj,hd,hz,h1⟩:=x
 have dH:=Obj.data_mapFields hd (·.setIfInBounds 1 u)
 refine ⟨_,_,Heap.get?_update_self _ e (Obj.isFreed_of_fields dH),(Obj.cls_mapFields _ _).trans hc,(Jm _ _).trans mj,dH,?_,?_⟩
 ·rw [Array.size_setIfInBounds];exact hz
 ·have:1<vs.size:=by omega
  simp [this]
def TB.set3 {h:Heap}{T:Addr}{fl:Value}(x:TB h T fl) (u:Value):TB (h.update T (Obj.mapFields (·.setIfInBounds 3 u))) T u:=by
 obtain ⟨oT,ts,e,hd,h3⟩:=x
 have dH:=Obj.data_mapFields hd (·.setIfInBounds 3 u)
 refine ⟨_,_,Heap.get?_update_self _ e (Obj.isFreed_of_fields dH),dH,?_⟩
 have:3<ts.size:=(Array.getElem?_eq_some_iff.mp h3).1
 simp [this]
section
variable {M:Model}{A:Around}{E:Aa}{s:Shared}{base:Heap}{env:Env}{outer:List Env}{L a:Addr}{C:Value}{d:Option Addr}{head:Value}{Q:Unit->Shared->Prop}
theorem Bf {b2:Bool}(cK:A.frames=some (env::outer)) (hl:s.heap.FunFrames base (env::outer)) (hf:env.frame=some L) (x:XO s.heap a C d head)
  (h:∀h' T,s.heap.objs.size<=T->XO h' a C d (.ref T)->TB h' T (rawInt L)->(∀b o,b≠a->b∉cN (env::outer)->s.heap.get? b=some o->h'.get? b=some o) ->
   (∀b o,b≠a->b∈cN (env::outer)->s.heap.get? b=some o->∃sl,h'.get? b=some { o with slots:=sl })->Q () { s with heap:=h' }) :
  wpAny M A (do let fr <-frameOf env;let pl <-entryPlaceOf L b2;let tb <-EntryCells.newEntry head fr .none (rawInt L) .none pl;setField (.ref a) 1 tb) Q E s:=by
 obtain ⟨oe,vs,e,hc,mj,hd,hz,h1⟩:=id x
 have aN:a∉cN (env::outer):=λhm=>by
  obtain ⟨_,o,ho,nf⟩:=hl.mem hm
  rw [e] at ho
  cases ho
  exact nf vs hd
 refine zp (wpAny_frameOf_fun cK hl hf λg1 qe=>zp (wpAny_entryPlaceOf λpl Bg=>?_))
 unfold EntryCells.newEntry newFields
 refine zp (wO ?_ (Bg.sizeOk5 _ _ _ _ _))
 have x1:XO g1 a C d head:=⟨oe,vs,(qe.2.1 a aN).trans e,hc,mj,hd,hz,h1⟩
 generalize hob:({ cls:=.type "traceback", dict:=none,data:=.fields ([head,.ref L,.none,rawInt L,.none]++(if pl.isEmpty then List.replicate 6 Value.none else pl)).toArray }:Obj)=ob
 have x2:XO (g1.push ob) a C d head:=x1.keeps λo q=>zZ _ q
 obtain ⟨V8,iH,e2,_,_,hd2,V9,_⟩:=id x2
 refine wpAny_setField e2 hd2 (by omega) ?_
 have aT:g1.objs.size≠a:=λz=>by
  obtain ⟨_,_,q,_⟩:=x1
  have:=yf q
  rw [<-z] at this
  exact Nat.lt_irrefl _ this
 have Bh:s.heap.objs.size<=g1.objs.size:=Nat.le_of_eq qe.1.symm
 refine h _ g1.objs.size Bh (x2.set1 _) ?_ (λb o nb nf q=>?_) (λb o nb nf q=>?_)
 ·have t0:TB (g1.push ob) g1.objs.size (rawInt L):=by
   refine ⟨ob,_,yP _ (by rw [<-hob];rfl),by rw [<-hob],?_⟩
   rcases Bg with rfl|⟨_,_,_,_,_,_,_,rfl⟩<;>simp
  exact t0.keeps λo q=>(j8 _ _ (yD aT)).trans q
 ·exact (j8 _ _ (yD nb)).trans (zZ _ ((qe.2.1 b nf).trans q))
 ·obtain ⟨sl,z⟩:=qe.2.2 b o q
  exact ⟨sl,(j8 _ _ (yD nb)).trans (zZ _ z)⟩
def Jn (cK:A.frames=some (env::outer)) (hl:s.heap.FunFrames base (env::outer)) (hf:env.frame=some L) (x:XO s.heap a C d head)
  (ht:head=.none\/∃T0,head=.ref T0/\T0≠a/\TB s.heap T0 .none)
  (h:∀h' T,s.heap.objs.size<=T->XO h' a C d (.ref T)->TB h' T (rawInt L)->(∀b o,b≠a->.ref b≠head->b∉cN (env::outer)->s.heap.get? b=some o->h'.get? b=some o) ->
   (∀b o,b∈cN (env::outer)->s.heap.get? b=some o->∃sl,h'.get? b=some { o with slots:=sl })->Q () { s with heap:=h' }) :
  wpAny M A (noteFrame (.ref a) env) Q E s:=by
 obtain ⟨oe,vs,e,hc,mj,hd,hz,h1⟩:=id x
 have aN:a∉cN (env::outer):=λhm=>by
  obtain ⟨_,o,ho,nf⟩:=hl.mem hm
  rw [e] at ho
  cases ho
  exact nf vs hd
 unfold noteFrame
 simp only [hf]
 refine zp (y9 e hd h1 ?_)
 rcases ht with rfl|⟨T0,rfl,nT,t0⟩
 ·rw [zF (by decide)]
  exact Bf cK hl hf x λh' T k1 k2 k3 k4 k5=>h h' T k1 k2 k3 (λb o nb _ nf q=>k4 b o nb nf q) λb o hb q=>k5 b o (λz=>aN (z▸hb)) hb q
 ·obtain ⟨oT,ts,eT,hdT,h3⟩:=id t0
  have TN:T0∉cN (env::outer):=λhm=>by
   obtain ⟨_,o,ho,nf⟩:=hl.mem hm
   rw [eT] at ho
   cases ho
   exact nf ts hdT
  rw [zu (show (Value.ref T0 != Value.none)=true from by simp)]
  refine zp (y9 eT hdT h3 ?_)
  rw [zF (show ¬((Value.none==rawInt L)=true) from by simp [rawInt])]
  refine zp (wpAny_setField eT hdT (Array.getElem?_eq_some_iff.mp h3).1 ?_)
  have kI:∀b,b≠T0->(s.heap.update T0 (Obj.mapFields (·.setIfInBounds 3 Value.none))).get? b=s.heap.get? b:=λb hb=>j8 _ _ (yD hb)
  refine Bf (s:={ s with heap:=s.heap.update T0 (Obj.mapFields (·.setIfInBounds 3 Value.none)) }) cK (hl.of_keeps λb o hb nf=>⟨o,(kI b λq=>?_).trans hb,rfl⟩) hf (x.keeps λo q=>(kI a (yD nT)).trans q) λh' T k1 k2 k3 k4 k5 =>
   h h' T (by simpa using k1) k2 k3 (λb o nb nh nf q=>k4 b o nb nf ((kI b λz=>nh (by rw [z])).trans q)) λb o hb q=>k5 b o (λz=>aN (z▸hb)) hb ((kI b λz=>TN (z▸hb)).trans q)
  rw [q,eT] at hb
  cases hb
  exact nf ts hdT
def Jo {T:Addr}{fl:Value}(x:XO s.heap a C d (.ref T)) (t:TB s.heap T fl) (ne:T≠a)
  (h:∀h',XO h' a C d (.ref T)->TB h' T .none->(∀b o,b≠T->s.heap.get? b=some o->h'.get? b=some o)->h'.objs.size=s.heap.objs.size->Q () { s with heap:=h' }):wpAny M A (setFlight (.ref a) none) Q E s:=by
 obtain ⟨oe,vs,e,_,_,hd,_,h1⟩:=id x
 obtain ⟨oT,ts,eT,hdT,h3⟩:=id t
 unfold setFlight
 refine zp (y9 e hd h1 ?_)
 rw [zu (show (Value.ref T != Value.none)=true from by simp)]
 refine wpAny_setField eT hdT (Array.getElem?_eq_some_iff.mp h3).1 ?_
 exact h _ (x.keeps λo q=>(j8 _ _ ne).trans q) (t.set3 _) (λb o nb q=>(j8 _ _ (yD nb)).trans q) (by simp)
end
def bb (X:Cx) (pins:Ac) (H:Hp) (b:Addr):Prop :=
 H b=none/\X.s₀.heap.objs.size<=b/\b≠X.env.locals/\(∀x c,X.env.cells.lookup x=some c->c≠b)/\∀p∈X.pn++pins,p.1≠b
def bb.new {X:Cx}{pins:Ac}{U:St}{H H':Hp}{s:Shared}{b:Addr}(I:Inv X pins U H s) (hb:s.heap.objs.size<=b) (hn:H' b=none):bb X pins H' b:=by
 obtain ⟨f0,f1,f2,f3,f4,f5⟩:=I.fpOk (H':=H') hb hn
 exact ⟨hn,y6 I.sz hb,f1,f4,f5⟩
def qf (X:Cx) (pins:Ac) (H:Hp) (h:Heap) (a C:Addr) (d:Option Addr):Prop :=
 ∃head,XO h a (.ref C) d head/\bb X pins H a/\(head=.none\/∃T,head=.ref T/\T≠a/\TB h T .none/\bb X pins H T)
def Throws (X:Cx) (E:XK):Prop:=∀(pins:Ac) (U:St) (H:Hp) (s:Shared) (a C:Addr) (d:Option Addr),Inv X pins U H s->qf X pins H s.heap a C d->E (.ref C) d H->X.xe (.ref a) s
def bT (P:Program) (w:World):dI:=λouter H s E e s'=>∃(a C T:Addr) (d:Option Addr) (H':Hp),e=.ref a/\s'.os=s.os/\AllBare s'.gens/\Un (cN outer) [] H H' s.heap s'.heap/\bR P w H' s'.heap /\
 XO s'.heap a (.ref C) d (.ref T)/\T≠a/\TB s'.heap T .none/\(s.heap.objs.size<=a/\H' a=none)/\(s.heap.objs.size<=T/\H' T=none)/\E (.ref C) d H'
def Jp {X:Cx}{E:XK}(t:Throws X E):Passes (bT X.prog X.w) X E:=by
 rintro pins U H s e s' I ⟨a,C,T,d,H',rfl,os,bare,un,hok,x,ne,tb,⟨a1,a2⟩,⟨t1,t2⟩,q⟩
 have I':Inv X pins U H' s':=I.call' (ch:=[]) os un hok bare λb z=>absurd z (by simp)
 exact t pins U H' s' a C d I' ⟨_,x,bb.new I a1 a2,.inr ⟨T,rfl,ne,tb,bb.new I t1 t2⟩⟩ q
def gi (a:Addr):Value->Ae
 | .ref T0=>[a,T0]
 | _=>[a]
def Bi (a:Addr) (v:Value):a∈gi a v:=by cases v<;>simp [gi]
def Bj (a T0:Addr):T0∈gi a (.ref T0):=by simp [gi]
section
variable {X:Cx}{pins:Ac}{U:St}{H:Hp}{s:Shared}{a C:Addr}{d:Option Addr}{A:Around}{E:Aa}{Q:Unit->Shared->Prop}
def tP (I:Inv X pins U H s) (cK:A.frames=some X.stack) (bw:X.stack=X.env::X.outer) (hf:X.env.frame=some X.env.locals) (F:qf X pins H s.heap a C d)
  (h:∀s' T,Inv X pins U H s'->XO s'.heap a (.ref C) d (.ref T)->T≠a->TB s'.heap T (rawInt X.env.locals)->bb X pins H a->bb X pins H T->Q () s'):wpAny (model X.prog X.w) A (noteFrame (.ref a) X.env) Q E s:=by
 obtain ⟨head,x,oa,ht⟩:=F
 have hl:s.heap.FunFrames X.base (X.env::X.outer):=bw▸I.stack
 have Bk:A.frames=some (X.env::X.outer):=cK.trans (congrArg some bw)
 have Bl:cN (X.env::X.outer)=X.env.locals::X.fs:=by
  unfold cN
  rw [List.filterMap_cons,hf]
  rfl
 have gW:∀b∈X.env.locals::X.fs,H b=none:=λb hb=>I.stkFree b (by rw [bw,Bl];exact hb)
 have tQ:∀b u,H b=some u->Value.ref b≠head:=λb u e z=>by
  rcases ht with rfl|⟨T0,rfl,_,_,r⟩
  ·cases z
  ·cases z
   rw [r.1] at e
   cases e
 refine Jn Bk hl hf x (ht.imp id λ⟨T0,e1,e2,e3,_⟩=>⟨T0,e1,e2,e3⟩) λh' T k1 k2 k3 k4 k5=>?_
 rw [Bl] at k4 k5
 have oT:bb X pins H T:=bb.new I k1 (I.hok.fresh k1)
 have neT:T≠a:=λz=>by
  obtain ⟨_,_,e,_⟩:=x
  have:=yf e
  rw [<-z] at this
  exact Nat.lt_irrefl _ (jd this k1)
 refine h { s with heap:=h' } T ?_ k2 neT k3 oa oT
 refine I.step (g':=s.gens) (t':=s.toks) (d':=s.drawn) (ch:=gi a head) (λb hb=>?_) (λb o n1 n2 n3 e n=>k4 b o (λz=>n3 ?_) (λz=>n3 ?_) (λz=>(yE.mp z).elim n1 n2) e)
  (λb o n1 n2 n3 e n=>k5 b o (jr _ n2) e) (λ_ _ _ _ n=>n) (λb o n3 e=>?_) (λ_ _ e=>e) (λ_ _ _ e=>e) (λb ps e=>⟨#[],by rw [e];simp⟩) (λm hm=>?_) (λb u e=>?_) I.bare
 ·have own:bb X pins H b:=by
   rcases ht with rfl|⟨T0,rfl,_,_,r⟩
   ·have z:b=a:=by simpa [gi] using hb
    rw [z];exact oa
   ·have z:b=a\/b=T0:=by simpa [gi] using hb
    rcases z with z|z
    ·rw [z];exact oa
    ·rw [z];exact r
  exact ⟨.inr own.2.1,own.2.2.1,own.2.2.2.1,own.2.2.2.2⟩
 ·rw [z]
  exact Bi a head
 ·rw [<-z]
  exact Bj a b
 ·by_cases hb:b∈X.env.locals::X.fs
  ·obtain ⟨sl,z⟩:=k5 b o hb e
   exact ⟨_,z⟩
  ·exact ⟨o,k4 b o (λz=>n3 (by rw [z];exact Bi a head)) (λz=>n3 (by rw [<-z];exact Bj a b)) hb e⟩
 ·obtain ⟨o,es,ep,ho,r⟩:=hm
  obtain ⟨sl,z⟩:=k5 _ o jk ho
  exact ⟨_,es,ep,z,r⟩
 ·refine (I.hok b u e).stay (λc v hc q=>?_) (λ_ q=>q) λ_ _ q=>q
  have tr:∃u',H c=some u':=by
   rcases hc with z|z
   ·exact ⟨u,by rw [z];exact e⟩
   ·exact ⟨_,z⟩
  obtain ⟨u',eu⟩:=tr
  exact k4 c v (λz=>by rw [z,oa.1] at eu;cases eu) (tQ c u' eu) (λz=>by rw [gW c z] at eu;cases eu) q
def nY {T:Addr}{fl:Value}(I:Inv X pins U H s) (x:XO s.heap a (.ref C) d (.ref T)) (ne:T≠a) (tb:TB s.heap T fl) (oa:bb X pins H a) (oT:bb X pins H T)
  (h:∀s',Inv X pins U H s'->XO s'.heap a (.ref C) d (.ref T)->TB s'.heap T .none->Q () s'):wpAny (model X.prog X.w) A (setFlight (.ref a) none) Q E s:=by
 refine Jo x tb ne λh' k1 k2 k3 _=>h { s with heap:=h' } ?_ k1 k2
 exact I.turned (t':=s.toks) (it:=T) (λb o nb e=>k3 b o nb e) oT.1 oT.2.2.1 (.inr oT.2.1) oT.2.2.2.1 oT.2.2.2.2
end
section
variable {P:Program}{w:World}{K:PySem.W.Frag}{mg:Ab}{base:Heap}
def dJ.okX {x qual:Str}{st:Stmt}{f:Addr}{fd:FuncData}{N ps:Ad}{k:Nat}{sp:Sp}(F:dJ K x qual st f fd) (S:aa N ps (zD st)) (len:∀vs H Q E,sp vs H Q E->vs.length=ps.length)
  (eR:∀(aX:Value) (A:Around) (outer:List Env) (s:Shared) (H:Hp) (vs:List V) (Q:VK) (E:XK),aW k (A.deeper (envOfC qual (zD st) s.heap.objs.size f aX))->sp vs H Q E ->
   ∃t,bY (dg (bT P w) P w K mg base N qual (zD st) f aX A outer s H E) (je st) t/\t { nx:=λ_ H'=>Q .non H',rt:=Q } (start N vs) H):bp P w K mg base (bT P w) (k+1) f fd ps sp:=by
 obtain ⟨oc,od,kV,doc,pm,an,aX,ct,eQ,rfl,lk,eO⟩:=F.ex
 exact Aw lk eO S len λA outer s H vs Q E hr gG=>eR aX A outer s H vs Q E hr gG
end
end L2
namespace L2
open PySem PySem.Spec PyProof.Rows PySem.W PySem.Builtin PySem.Builtin.ObjectAttr
def Jq (self:Value):refuseLoop self "__setattr__" [.type "ValueError", .type "Exception", .type "BaseException", .type "object"]=pure ():=by kernel_rfl
def cw:List Value->Bool
 | [.type a,.type b,.type c,.type d]=>a == "ValueError" && b == "Exception" && c == "BaseException" && d == "object"
 | .ref _::r=>cw r
 | _=>false
theorem Bm (self:Value):∀{l:Af},cw l=true->refuseLoop self "__setattr__" l=pure ()
 | [.type a,.type b,.type c,.type d],e=>by
  simp only [cw,j9,beq_iff_eq] at e
  obtain ⟨⟨⟨rfl,rfl⟩,rfl⟩,rfl⟩:=e
  exact Jq self
 | .ref c::r,e=>by
  rw [refuseLoop_ref]
  exact Bm self (by cases r<;>first|exact e|cases e)
theorem Bn:∀{l:Af},cw l=true->l.contains (.type "object")=true
 | [.type a,.type b,.type c,.type d],e=>by
  simp only [cw,j9,beq_iff_eq] at e
  obtain ⟨⟨⟨rfl,rfl⟩,rfl⟩,rfl⟩:=e
  simp
 | .ref c::r,e=>by
  rw [List.contains_cons,Bn (l:=r) (by cases r<;>first|exact e|cases e),Bool.or_true]
def eY (K:Frag) (C:Addr):Bool:=(clsIn K C).any λcd=>cw cd.mro
section
variable {prog:Program}{w:World}{A:Around}{E:Aa}{K:Frag}{x C:Addr}{s:Shared}{R:Result->Shared->Prop}
def Jr {ox:Obj}{od:Option Obj}{name:Str}{tk:Tok}{v:Value}(X:K.In s.heap) (I:InstAt s.heap x ox C od) (hp:eY K C=true) (ht:takerIn K C name=some none)
  (h:∀b,wpAny (model prog w) A.in1 (storeInOwnDict (.ref x) (.ref C) (.str name tk) name v b)
   (λfin s'=>match fin with | .done f=>R (.ok f) s' | .again c'=>c'.quiet=true/\codeAny (model prog w) A c' R s') (λe s'=>R (.error e) s') s) :
  codeAny (model prog w) A (.call (.builtin "object.__setattr__") ⟨[.ref x,.str name tk,v],[]⟩) R s:=by
 have SO:=PySem.F.store_object
 obtain ⟨cd,hc,ho⟩:=any_some hp
 have ne:cd.mro.isEmpty=false:=by
  cases q:cd.mro with
  | nil=>rw [q] at ho;cases ho
  | cons _ _=>rfl
 have Js:Looks (model prog w) s.heap (isInstance (.ref x) (.type "object")) true:=I.type.andThen (looks_mroIn X (by unfold mroIn;rw [hc,Option.bind_some,zF (by rw [ne];decide),Bn ho]))
 refine codeAny_call_builtin SO.slot.plain SO.entry (@check_slot (model prog w) _ _ s "object.__setattr__" "object" "__setattr__" (.ref x) [.str name tk,v] [] _ SO.kind SO.split Js (SO.args (.ref x) (.str name tk) v) ?_)
 obtain ⟨attr,ha,hr⟩:=Option.bind_eq_some_iff.mp ht
 have mr:Looks (model prog w) s.heap (mroOf (.ref C)) cd.mro:=(looks_clsIn X hc).andThen .now
 have Jt:Looks (model prog w) s.heap (storeTaker? attr) none:=by
  cases attr with
  | none=>exact .now
  | some a =>
   obtain ⟨b,hb,e⟩:=Option.map_eq_some_iff.mp hr
   refine (looks_takesIn X hb).andThen ?_
   cases b with
   | true=>cases e
   | false=>exact .now
 rw [osa_eq,refuse_eq]
 refine zp (zp (I.type.here (zp (mr.here ?_))))
 rw [Bm _ ho]
 refine zK (zp (I.type.here (zp ((looks_findIn X ha).here (zp (Jt.here ?_))))))
 exact h _
def Ju {t:Addr}{name:Str}{v:Value}{Q:Unit->Shared->Prop}(X:K.In s.heap) (he:s.heap.get? x=some { cls:=.ref C,data:=.fields #[.ref t,.none,.none,.none,.bool false,.none] })
  (hs:findIn K (.ref C) "__setattr__" = some (some (.builtin "object.__setattr__"))) (hp:eY K C=true) (ht:takerIn K C name=some none) (hh:hasDictIn K C=true)
  (h:∀h',h'.get? x=some { cls:=.ref C,dict:=some s.heap.objs.size,data:=.fields #[.ref t,.none,.none,.none,.bool false,.none] }->h'.Ns1 s.heap.objs.size (λy=>if y=name then some v else none) ->
   (∀b o,b≠x->s.heap.get? b=some o->h'.get? b=some o)->∀tk,Q () { s with heap:=h',toks:=tk }):wpAny (model prog w) A (setAttr (.ref x) name v) Q E s:=by
 have J:InstAt s.heap x { cls:=.ref C,data:=.fields #[.ref t,.none,.none,.none,.bool false,.none] } C none:=⟨he,rfl,rfl,trivial⟩
 refine set_plain X J hs (Jr (s:={ s with toks:=s.toks+1 }) X J hp ht λb=>?_)
 obtain ⟨cd,hc,dH⟩:=any_some hh
 have xl:=yf he
 refine zp (zK (zp (zp (wpAny_loadPart he (zp (Looks.here (s:={ s with toks:=s.toks+1 }) (looks_clsIn X hc) ?_))))))
 rw [dH]
 show wpAny (model prog w) A.in1 (do
  let d <-alloc { cls:=.type "dict", data:=.dict #[] }
  update x λo=>{ o with dict:=some d }
  dictMade (.ref C) x d) _ _ _
 refine zp (wpAny_alloc (zp (wpAny_update (zZ _ he) ?_)))
 refine zK (a:=some s.heap.objs.size) (zp (zK (zp ?_)))
 have xn:s.heap.objs.size≠x:=Nat.ne_of_gt xl
 have ex:((s.heap.push { cls:=.type "dict", data:=.dict #[] }).update x λo=>{ o with dict:=some s.heap.objs.size }).get? x=some { cls:=.ref C,dict:=some s.heap.objs.size,data:=.fields #[.ref t,.none,.none,.none,.bool false,.none] } :=
  Heap.get?_update_self _ (zZ _ he) rfl
 have ed:((s.heap.push { cls:=.type "dict", data:=.dict #[] }).update x λo=>{ o with dict:=some s.heap.objs.size }).get? s.heap.objs.size=some { cls:=.type "dict", data:=.dict #[] } :=
  (j8 _ _ (yD xn)).trans (yP _ rfl)
 have en:((s.heap.push { cls:=.type "dict", data:=.dict #[] }).update x λo=>{ o with dict:=some s.heap.objs.size }).Ns1 s.heap.objs.size (λ_=>none) :=
  Heap.Ns1.of_empty ⟨_,#[],_,ed,rfl,(λe he=>absurd he (by simp)),λ_=>rfl⟩
 refine wpAny_nsSet1 (s:={ s with heap:=(s.heap.push { cls:=.type "dict", data:=.dict #[] }).update x λo=>{ o with dict:=some s.heap.objs.size },toks:=s.toks+1 }) en λh' fB fC=>?_
 obtain ⟨oD,Hz,HA,sH,sI,sJ⟩:=fB.count (PySem.Within.cons (ns:=[]) name v λy hy=>absurd rfl hy)
 refine zp (wpAny_lookBehind sH (by rw [sI];exact pastItsLine_dict (y6 sJ (by simp))) ?_)
 refine zK (h h' ((fC.2 x (yD xn)).trans ex) fB (λb o nb e=>(fC.2 b (yz (yf e))).trans ((j8 _ _ (yD nb)).trans (zZ _ e))) _)
end
section
variable {prog:Program}{w:World}{A:Around}{h:Heap}{g:Array GenState}{d:Drawn}{t:Nat}{os:OsState}{R:Result->Shared->Prop}
variable {nm q:Str}{C N f:Addr}{bs bm tR:Af}{cj:Bool}{sn:Ad}{sub:Af}{ab:Bool}{col:Option Bool}{dd:Option Addr}{k0 k1 k2 k3 k5:Option Value}{B newId lK:String}
theorem Jv (F:ExcBaseFacts B newId lK tR) (T:OwnTail h tR bm) {mN:Ab}{rest:Af}
  (hC:h.get? C=some (excClassObj nm q C N bs bm cj sn sub ab col dd k0 k1 k2 k3 k5 newId)) (hn:h.Ns N mN) (hi:mN "__init__" = some (.ref f))
  (hb:∀self,Looks (model prog w) h (bindSpecial (.ref f) self) (.ref f,[self])) (gj:rest.length<=sizeLine)
  (hq:codeAny (model prog w) (A.under (.builtin "type.__call__" ⟨.ref C::rest,[]⟩)) (.call (.ref f) ⟨.ref (h.objs.size+1)::rest,[]⟩) (InitBack (h.objs.size+1) R)
   ⟨(h.push { cls:=.type "tuple", data:=.seq rest.toArray }).push { cls:=.ref C,data:=.fields #[.ref h.objs.size,.none,.none,.none,.bool false,.none] },g,d,t,os⟩) :
  codeAny (model prog w) A (.call (.ref C) ⟨rest,[]⟩) R ⟨h,g,d,t,os⟩:=by
 have u1:=tc_lookup
 have u2:=tc_bind (.ref C)
 have hT:(⟨h,g,d,t,os⟩:Shared).TypeIs (.ref C) "type" := ⟨_,hC,rfl⟩
 refine codeAny_of_tree ?_
 show wpAny _ _ (callAny (.ref C) _) _ _ _
 repeat (any_goals (first|assumption|with_reducible refine wpAny_loadPart_at hC ?_|wp_step))
 refine ⟨rfl,codeAny_call_builtin_at (Code.quiet_builtin _ (by decide +kernel)) entry_typeCall (wpAny_check_type_call_sub hC ?_)⟩
 repeat (first|with_reducible refine wpAny_loadPart_at hC ?_|with_reducible refine wpAny_madeBy_exc hC ?_|wp_step)
 refine codeAny_call_builtin_code (Code.quiet_builtin _ F.quiet) (wpAny_check_new_subT F T hC (codeAny_exc_new_subT F T hC ?_ gj))
 change wpAny (model prog w) (A.under (.builtin "type.__call__" ⟨.ref C::rest,[]⟩)) _ _ _ ⟨(h.push { cls:=.type "tuple", data:=.seq rest.toArray }).push { cls:=.ref C,data:=.fields #[.ref h.objs.size,.none,.none,.none,.bool false,.none] },g,d,t,os⟩
 generalize hg2:(h.push { cls:=.type "tuple", data:=.seq rest.toArray }).push { cls:=.ref C,data:=.fields #[.ref h.objs.size,.none,.none,.none,.bool false,.none] }=h2 at hq ⊢
 have kp:∀b o,h.get? b=some o->h2.get? b=some o:=λb o e=>hg2▸zZ _ (zZ _ e)
 have gx:h2.get? (h.objs.size+1)=some { cls:=.ref C,data:=.fields #[.ref h.objs.size,.none,.none,.none,.bool false,.none] }:=by
  rw [<-hg2]
  heap_get
 have C2:=kp _ _ hC
 have T2:=T.keeps kp
 have n2:=hn.keeps kp
 have cC:(Value.ref C::bm).contains (.ref C)=true:=by simp
 unfold isInstance
 repeat (first|with_reducible refine wpAny_loadPart_at gx ?_|(with_reducible refine wpAny_isSubtype_exc C2 ?_;rw [cC])|wp_step)
 show wpAny _ _ (typeLookup (.ref C) _) _ _ _
 refine wpAny_typeLookup_tail C2 n2 T2 F.mroIs F.init.lookup ?_
 rw [hi]
 refine jN (zp (((hb _).keeps kp).here (s:=⟨h2,g,d,t,os⟩) (zp (wpAny_call (codeAny_mono hq λr s' z=>?_)))))
 cases r with
 | error e=>exact z
 | ok fl =>
  cases fl with
  | ret v =>
   obtain ⟨rfl,z⟩:=z
   exact zK (zK z)
  | next=>exact z.elim
  | brk=>exact z.elim
  | cont=>exact z.elim
end
def gk (C t:Addr) (d:Option Addr) (a:Addr):HO:=.ext λ_ _ h=>h.get? a=some { cls:=.ref C,dict:=d,data:=.fields #[.ref t,.none,.none,.none,.bool false,.none] }
structure kJ (K:PySem.W.Frag) (C:Addr) (f:Str):Prop where
 sa:PySem.W.findIn K (.ref C) "__setattr__" = some (some (.builtin "object.__setattr__"))
 line:eY K C=true
 no:PySem.W.takerIn K C f=some none
 hd:PySem.W.hasDictIn K C=true
def Bo (K:PySem.W.Frag) (ta tv:TE) (f:Str):TS:=λD U H=>tv U H λy H1=>ta U H1 λx H2=>∃a C t,x=.ref a/\H2 a=some (gk C t none a)/\kJ K C f /\
 ∀d,H2 d=none->D.nx U (upd (upd H2 d (.xd [(f,y)])) a (gk C t (some d) a))
def qg {X:Cx}{o value:Expr}{f:Str}{pos pos':Pos}{ta tv:TE}(ha:PE X o ta) (hv:PE X value tv) (hs:swapsWith value (some (.Attribute o f pos')) pos.line X.env=pure false):PS X (.Assign [.Attribute o f pos'] value pos) (Bo X.K ta tv f):=by
 intro pins s U H D I h
 refine plainObj_wpAny_Assign_Attribute (aU (hv pins s U H _ I h) λu s1 ⟨y,H1,I1,ry,q⟩=>aU (ha pins s1 U H1 _ I1 q) λov s2 ⟨x,H2,I2,rx,a,C,t,ex,ea,c,q2⟩=>?_) hs
 subst ex
 obtain rfl:ov=Value.ref a:=rx
 have he:s2.heap.get? a=some { cls:=.ref C,dict:=none,data:=.fields #[.ref t,.none,.none,.none,.bool false,.none] }:=(I2.hok a _ ea).1
 refine Ju I2.kIn he c.sa c.line c.no c.hd λh' g1 g2 g3 tk=>?_
 have fr:H2 s2.heap.objs.size=none:=I2.hok.fresh (yd _)
 have na:a≠s2.heap.objs.size:=yz (yf he)
 refine ⟨U,_,?_,q2 s2.heap.objs.size fr⟩
 have old:∀b o,s2.heap.get? b=some o->b≠s2.heap.objs.size:=λb o e=>yz (yf e)
 have nZ:∀b,H2 b=none->b≠a:=λb n z=>by rw [z,ea] at n;cases n
 have gR:∀b,b≠a->b≠s2.heap.objs.size->(upd (upd H2 s2.heap.objs.size (.xd [(f,y)])) a (gk C t (some s2.heap.objs.size) a)) b=H2 b:=λb n1 n2=>by rw [zW n1,zW n2]
 have n5:∀b u,H2 b=some u->b≠s2.heap.objs.size:=λb u e z=>by rw [z,fr] at e;cases e
 refine I2.un (t':=tk) ⟨λb o e n _ _=>g3 b o (nZ b n) e,λb o e n _ _=>⟨o.slots,g3 b o (nZ b n) e⟩,λb o e n _=>by rw [gR b (nZ b n) (old b o e)];exact n,λb o e _=>?_,λb xs e=>?_,λb o u e=>?_,λb ps e=>?_⟩ λb uo e=>?_
 ·by_cases z:b=a
  ·exact ⟨_,z▸g1⟩
  ·exact ⟨o,g3 b o z e⟩
 ·have z:b≠a:=λz=>by rw [z,ea] at e;cases e
  rw [gR b z (n5 b _ e)];exact e
 ·have z:b≠a:=λz=>by rw [z,ea] at e;cases e
  rw [gR b z (n5 b _ e)];exact e
 ·have z:b≠a:=λz=>by rw [z,ea] at e;cases e
  exact ⟨#[],by rw [gR b z (n5 b _ e),e];simp⟩
 ·by_cases z:b=a
  ·rw [z] at e ⊢
   rw [yx] at e
   cases e
   exact ⟨g1,⟨_,g1⟩,λh1 h2 p k=>k _ p⟩
  ·rw [zW z] at e
   by_cases z2:b=s2.heap.objs.size
   ·rw [z2] at e ⊢
    rw [yx] at e
    cases e
    refine ⟨_,g2,λn=>?_⟩
    show b_ (List.lookup n [(f,y)]) (if n=f then some u else none)
    rw [wa]
    by_cases w':n=f
    ·rw [zu w',w',beq_self_eq_true]
     exact ry
    ·rw [zF w',beq_eq_false_iff_ne.mpr w']
     exact True.intro
   ·rw [zW z2] at e
    refine (I2.hok b uo e).stay (λc v hc w'=>g3 c v ?_ w') (λc w'=>?_) λc xs w'=>?_
    ·rcases hc with w2|w2
     ·rw [w2];exact z
     ·intro w3
      rw [w3,ea] at w2
      cases w2
    ·have n1:c≠a:=λw3=>by rw [w3,ea] at w';cases w'
     rw [gR c n1 (n5 c _ w')];exact w'
    ·have n1:c≠a:=λw3=>by rw [w3,ea] at w';cases w'
     rw [gR c n1 (n5 c _ w')];exact w'
abbrev c6:Af:=[.type "ValueError", .type "Exception", .type "BaseException", .type "object"]
def Jw {K:Frag}{h:Heap}{N:Addr}{mN:Ab}{n:Str}{v:Value}(X:K.In h) (G:h.Ns N mN) (e:nsIn K N n=some (some v)):mN n=some v:=by
 obtain ⟨o,es,ep,ho,hd,_,hf⟩:=G
 unfold nsIn at e
 split at e
 ·rename_i q
  have:=X _ _ q
  rw [ho] at this
  cases this
  cases hd
  split at e
  ·rename_i he
   cases e
   rw [<-hf]
   unfold nsFind findBy
   rw [<-Array.find?_toList,he]
   rfl
  ·split at e<;>cases e
 ·cases e
structure eZ (K:Frag) (C:Addr):Prop where
 ob:∃nm q N bs bm cj sn sub ab col dd k0 k1 k2 k3 k5,K.lookup C=some (excClassObj nm q C N bs bm cj sn sub ab col dd k0 k1 k2 k3 k5 "ValueError.__new__")/\tailIn K c6 bm=true/\nsOkIn K N=true
 kp:keepIn K (.ref C)=true
structure e_ (K:Frag) (C f:Addr):Prop where
 ob:∃nm q N bs bm cj sn sub ab col dd k0 k1 k2 k3 k5,K.lookup C=some (excClassObj nm q C N bs bm cj sn sub ab col dd k0 k1 k2 k3 k5 "ValueError.__new__")/\tailIn K c6 bm=true/\nsOkIn K N=true/\nsIn K N "__init__" = some (some (.ref f))
 fn:isFn K (.ref f)=true
 kp:keepIn K (.ref C)=true
def e_.of {K:Frag}{C f:Addr}(x:e_ K C f):eZ K C:=by
 obtain ⟨⟨nm,q,N,bs,bm,cj,sn,sub,ab,col,dd,k0,k1,k2,k3,k5,a,b,c,_⟩,_,k⟩:=x
 exact ⟨⟨nm,q,N,bs,bm,cj,sn,sub,ab,col,dd,k0,k1,k2,k3,k5,a,b,c⟩,k⟩
def del (H:Hp) (a:Addr):Hp:=λb=>if b=a then none else H b
def tS {H:Hp}{a:Addr}:del H a a=none:=zu rfl
def kK {H:Hp}{a b:Addr}(h:b≠a):del H a b=H b:=zF h
def Jx {H:Hp}{a:Addr}{o:HO}(h:H a=none):del (upd H a o) a=H:=by
 funext b
 by_cases z:b=a
 ·rw [z,tS,h]
 ·rw [kK z,zW z]
def Jy {H:Hp}{a b:Addr}{o o':HO}(n:a≠b):upd (upd H a o) b o'=upd (upd H b o') a o:=by
 funext c
 by_cases z:c=a
 ·rw [z,zW n,yx,yx]
 ·by_cases z2:c=b
  ·rw [z2,yx,zW (yD n),yx]
  ·rw [zW z2,zW z,zW z,zW z2]
def Inv.drop {X:Cx}{pins:Ac}{U:St}{H:Hp}{s:Shared}{a:Addr}{φ:Program->World->Heap->Prop}(I:Inv X pins U H s) (ha:H a=some (.ext φ)):Inv X pins U (del H a) s:=by
 have ne:∀b u,H b=some u->(∀φ,u ≠ .ext φ)->b≠a:=λb u e n z=>by
  rw [z,ha] at e
  cases e
  exact n _ rfl
 have t:Inv X pins U (del H a) { s with heap:=s.heap,toks:=s.toks }:=I.un ⟨λb o e _ _ _=>e,λb o e _ _ _=>⟨o.slots,e⟩,λb o e n _=>?_,λb o e _=>⟨o,e⟩,λb xs e=>?_,λb o u e=>?_,λb ps e=>?_⟩ λb u e=>?_
 ·exact t
 ·unfold del
  split<;>first|rfl|exact n
 ·rw [kK (ne b _ e λ_ z=>by cases z)];exact e
 ·rw [kK (ne b _ e λ_ z=>by cases z)];exact e
 ·exact ⟨#[],by rw [kK (ne b _ e λ_ z=>by cases z),e];simp⟩
 ·have z:b≠a:=λz=>by rw [z,tS] at e;cases e
  rw [kK z] at e
  refine (I.hok b u e).stay (λ_ _ _ q=>q) (λc q=>?_) λc xs q=>?_
  ·rw [kK (ne c _ q λ_ z=>by cases z)];exact q
  ·rw [kK (ne c _ q λ_ z=>by cases z)];exact q
section
variable {M:Model}{A:Around}{E:Aa}{env:Env}{s:Shared}
def Jz {K:Frag}{x:Sem Value}{Q:Flow->Shared->Prop}(hh:A.handled=none)
  (h:wpAny M A x (λv ak=>∃e C t d,v=.ref e/\K.In ak.heap/\eZ K C/\ak.heap.get? e=some { cls:=.ref C,dict:=d,data:=.fields #[.ref t,.none,.none,.none,.bool false,.none] }/\E (.ref e) ak) E s):wpAny M A (raiseStmt env (some x) none) Q E s:=by
 unfold raiseStmt
 refine zp (yG h (λv ak aw=>?_) λ_ _ x=>x)
 obtain ⟨e,C,tt,dx,rfl,kin,⟨⟨nm,q,N,bs,bm,cj,sn,sub,ab,col,dd,k0,k1,k2,k3,k5,hC,ht,_⟩,_⟩,he,hE⟩:=aw
 have hC:=kin _ _ hC
 have bI:bm.contains (.type "BaseException")=true:=(tail_of_in kin ht).hasType (by decide)
 have JA:(Value.ref C::bm).contains (.type "BaseException")=true:=by rw [List.contains_cons,bI,Bool.or_true]
 obtain ⟨hp,g,d,tk,os⟩:=ak
 repeat (first|with_reducible refine wpAny_loadPart_at he ?_|with_reducible refine wpAny_loadPart_at hC ?_|(with_reducible refine wpAny_isSubtype_exc hC ?_;rw [JA])|wp_step)
 exact wpAny_raiseNew_none hh hE
end
section
variable {X:Cx}{CX:dI}{k:Nat}{f C:Addr}{fd:FuncData}{ps:Ad}{sp:Sp}{E:XK}
def JB {pins:Ac}{U:St}{H:Hp}{s:Shared}{Q:VK}{us:Af}{vs:List V}(M:e_ X.K C f) (F:bp X.prog X.w X.K X.mg X.base CX k f fd ps sp) (hr:aW (k+1) X.A) (hb:Binds X.K fd ps [])
  (hx:Passes CX X E) (I:Inv X pins U H s) (r:Vals vs us) (hz:us.length<=sizeLine)
  (h:∀x t,bb X pins H x->sp (.ref x::vs) (upd H x (gk C t none x)) (λv H2=>v=.non/\Q (.ref x) H2) E) :
  wpAny (model X.prog X.w) X.A (call (.ref C) us) (EP X pins U Q) X.xe s:=by
 obtain ⟨⟨nm,q,N,bs,bm,cj,sn,sub,ab,col,dd,k0,k1,k2,k3,k5,hC,ht,hok,hi⟩,nk,_⟩:=M
 have Bp:s.heap.objs.size<=s.heap.objs.size+1:=Nat.le_succ _
 have JC:H (s.heap.objs.size+1)=none:=I.hok.fresh Bp
 have hq:=h (s.heap.objs.size+1) s.heap.objs.size (bb.new I Bp JC)
 let o1:Obj:={ cls:=.type "tuple", data:=.seq us.toArray }
 let o2:Obj:={ cls:=.ref C,data:=.fields #[.ref s.heap.objs.size,.none,.none,.none,.bool false,.none] }
 have e2:((s.heap.push o1).push o2).get? (s.heap.objs.size+1)=some o2:=by
  have:=yP (s.heap.push o1) (o:=o2) rfl
  rwa [Heap.size_push] at this
 have I1:Inv X pins U H { s with heap:=s.heap.push o1,toks:=s.toks }:=I.kept λb u q=>zZ _ q
 have I2:Inv X pins U (upd H (s.heap.objs.size+1) (gk C s.heap.objs.size none (s.heap.objs.size+1))) { s with heap:=(s.heap.push o1).push o2 } :=
  I1.laid (a:=s.heap.objs.size+1) (o:=gk C s.heap.objs.size none (s.heap.objs.size+1)) (t':=s.toks) (λb u q=>zZ _ q) (Nat.le_of_eq (Heap.size_push _ _)) ⟨e2,⟨_,e2⟩,λh1 h2 p k=>k _ p⟩
 have r2:Vals (V.ref (s.heap.objs.size+1)::vs) (Value.ref (s.heap.objs.size+1)::us):=.cons rfl r
 have hl:(Value.ref (s.heap.objs.size+1)::us++[]).length=ps.length:=by
  have e:=r2.length
  rw [F.len _ _ _ _ hq] at e
  rw [List.append_nil]
  exact e.symm
 have Bq:=hb { s with heap:=(s.heap.push o1).push o2 } (Value.ref (s.heap.objs.size+1)::us) I2.kIn hl
 rw [List.append_nil] at Bq
 obtain ⟨hp,g,d,tk,os⟩:=s
 refine wpAny_call (Jv (f:=f) PySem.F.excBase_ValueError (tail_of_in I.kIn ht) (I.kIn _ _ hC) (.of_isNs (isNs_of_in I.kIn hok)) (Jw I.kIn (.of_isNs (isNs_of_in I.kIn hok)) hi)
  (λself=>bind_fn I.kIn self (beq_iff_eq.mp nk)) hz (codeAny_mono (F.run _ X.stack _ _ ⟨Value.ref (hp.objs.size+1)::us,[]⟩ (Value.ref (hp.objs.size+1)::us) _ _ E (hr.make C us [])
  (I2.env0.make C us []) Bq r2 hq) λr s' hq'=>?_))
 cases r with
 | error e=>exact hx pins U _ _ e s' I2 hq'
 | ok fl =>
  cases fl with
  | ret u =>
   obtain ⟨v,H',I3,rv,ev,q3⟩:=I2.after hq'
   subst ev
   exact ⟨rv,⟨V.ref (hp.objs.size+1),H',I3,rfl,q3⟩⟩
  | next=>exact hq'.elim
  | brk=>exact hq'.elim
  | cont=>exact hq'.elim
def Br (C:Addr) (f:Str):Sp:=λvs H Q _=>∃a t y,vs=[.ref a,y]/\H a=some (gk C t none a)/\∀d,H d=none->Q .non (upd (upd H d (.xd [(f,y)])) a (gk C t (some d) a))
def JD (C:Addr) (f:Str) (te:TE) (Er:XK):TS:=λ_ U H=>te U H λy H1=>∀d,H1 d=none->Er (.ref C) (some d) (upd H1 d (.xd [(f,y)]))
def JE {x fld:Str}{e:Expr}{te:TE}{np a0 pos:Pos}{Er:XK}(he:PE X e te) (M:e_ X.K C f) (F:bp X.prog X.w X.K X.mg X.base CX k f fd ps (Br C fld)) (hr:aW (k+1) X.A) (hg:Gl X x) (hm:X.mg x=some (.ref C))
  (hb:Binds X.K fd ps []) (hx:Passes CX X Er) (ht:Throws X Er) (hc:X.calm=true) (bG:(x==("__debug__" : Str))=false:=by decide)
  (hs:starEach [e] X.env=(false,eval e X.env)::starEach [] X.env:=by rfl):PS X (.Raise (some (.Call (.Name x np) [e] [] a0)) none pos) (JD C fld te Er):=by
 intro pins s U H D I h
 rw [arm_exec_Raise]
 refine zp (wpAny_standAt ?_)
 refine Jz (K:=X.K) (I.ok.hd hc) ?_
 refine zp (aU (Q:=EP X pins U λv H2=>∃a t d,v=.ref a/\bb X pins (del H2 a) a/\H2 a=some (gk C t (some d) a)/\Er (.ref C) (some d) (del H2 a)) ?_ λu s1 ⟨v,H2,I2,rv,a,t,d,ev,ow,ha,q⟩=>zp (wpAny_standAt (zK ?_)))
 ·refine wpAny_Call_Name_kw (iq I hg hm ?_ bG)
  refine PySem.W.callWith_K (h₀:=X.base) I.ok.mod.kin M.kp (spliced_more (aU (he pins s U H _ I h) λu s1 ⟨y,H1,I1,ry,q⟩=>?_) hs) hs rfl
  refine spliced_none ⟨I1.kIn,?_⟩
  refine JB (vs:=[y]) M F hr hb hx I1 (.cons ry .nil) (show 1<=sizeLine by decide) λa t ow=>⟨a,t,y,rfl,yx,λd hd=>⟨rfl,a,t,d,rfl,?_,yx,?_⟩⟩
  ·exact ⟨tS,ow.2⟩
  ·have n:d≠a:=λz=>by rw [z,yx] at hd;cases hd
   rw [zW n] at hd
   have e1:del (upd (upd (upd H1 a (gk C t none a)) d (.xd [(fld,y)])) a (gk C t (some d) a)) a=upd H1 d (.xd [(fld,y)]):=by
    rw [Jy (yD n),FZ]
    exact Jx (by rw [zW (yD n)];exact ow.1)
   rw [e1]
   exact q d hd
 ·subst ev
  obtain rfl:u=Value.ref a:=rv
  have he:s1.heap.get? a=some { cls:=.ref C,dict:=some d,data:=.fields #[.ref t,.none,.none,.none,.bool false,.none] }:=(I2.hok a _ ha).1
  exact ⟨a,C,t,some d,rfl,I2.kIn,M.of,he,ht pins U _ s1 a C (some d) (Inv.drop I2 ha) ⟨.none,⟨_,_,he,rfl,rfl,rfl,rfl,rfl⟩,ow,.inl rfl⟩ q⟩
end
def XP (X:Cx) (pins:Ac) (U:St) (E:XK) (u:Value) (s':Shared):Prop:=∃(a C:Addr) (d:Option Addr) (H':Hp),u=.ref a/\Inv X pins U H' s'/\qf X pins H' s'.heap a C d/\E (.ref C) d H'
abbrev TX:=St->Hp->VK->XK->Prop
def PX (X:Cx) (e:Expr) (t:TX):Prop :=
 ∀(pins:Ac) (s:Shared) (U:St) (H:Hp) (Q:VK) (E:XK),Inv X pins U H s->t U H Q E->wpAny (model X.prog X.w) X.A (eval e X.env) (EP X pins U Q) (XP X pins U E) s
def JF (sp:Sp) (cJ:List V) (t:TA):TX:=λU H Q E=>t U H λvs H1=>sp (vs++cJ) H1 Q E
section
variable {X:Cx}{k:Nat}{f C:Addr}{fd:FuncData}{ps:Ad}{sp:Sp}{cJ:List V}{ds:Af}{E:XK}{x m:Str}{p pos apos:Pos}{e o:Expr}{es:List Expr}{ta:TE}{t:TA}
def Bs {pins:Ac}{U:St}{H:Hp}{s:Shared}{Q:VK}{us:Af}{vs:List V}(F:bp X.prog X.w X.K X.mg X.base (bT X.prog X.w) k f fd ps sp) (hr:aW k X.A) (hb:Binds X.K fd ps ds) (hd:Vals cJ ds)
  (I:Inv X pins U H s) (r:Vals vs us) (h:sp (vs++cJ) H Q E):wpAny (model X.prog X.w) X.A (call (.ref f) us) (EP X pins U Q) (XP X pins U E) s:=by
 have r2:Vals (vs++cJ) (us++ds):=r.append hd
 have hl:(us++ds).length=ps.length:=by rw [<-r2.length];exact F.len _ _ _ _ h
 refine wpAny_call (codeAny_mono (F.run X.A X.stack s H ⟨us,[]⟩ (us++ds) (vs++cJ) Q E hr I.env0 (hb s us I.kIn hl) r2 h) λr s' hq=>?_)
 cases r with
 | error e =>
  obtain ⟨a,C,T,d,H',rfl,os,bare,un,hok,x,ne,tb,⟨a1,a2⟩,⟨t1,t2⟩,q⟩:=hq
  have I':Inv X pins U H' s':=I.call' (ch:=[]) os un hok bare λb z=>absurd z (by simp)
  exact ⟨a,C,d,H',rfl,I',⟨_,x,bb.new I a1 a2,.inr ⟨T,rfl,ne,tb,bb.new I t1 t2⟩⟩,q⟩
 | ok fl =>
  cases fl with
  | ret u=>exact I.after hq
  | next=>exact hq.elim
  | brk=>exact hq.elim
  | cont=>exact hq.elim
def JG (F:bp X.prog X.w X.K X.mg X.base (bT X.prog X.w) k f fd ps sp) (hr:aW k X.A) (hg:Gl X x) (hm:X.mg x=some (.ref f)) (hk:PySem.W.keepIn X.K (.ref f)=true) (hb:Binds X.K fd ps ds) (hd:Vals cJ ds)
  (ha:PA X.nox (e::es) t) (bG:(x==("__debug__" : Str))=false:=by decide) (he:starEach (e::es) X.env=(false,eval e X.env)::starEach es X.env:=by rfl) (br:(backTo pos (starEach es X.env)).any (·.1)=false:=by rfl) :
  PX X (.Call (.Name x p) (e::es) [] pos) (JF sp cJ t):=by
 intro pins s U H Q E I h
 refine wpAny_Call_Name_kw (iq I hg hm ?_ bG)
 refine PySem.W.callWith_K (h₀:=X.base) I.ok.mod.kin hk (yG (ha pos pins s U H _ (I.wish _) h) (λus s1 ⟨vs,H1,I1,r,q⟩=>⟨I1.unwish.kIn,?_⟩) λ_ _ z=>z.elim) he br
 exact Bs F hr hb hd I1.unwish r q
end
def fF (C:Addr) (d:Option Addr) (a:Addr):HO:=.ext λ_ _ h=>∃T:Addr,XO h a (.ref C) d (.ref T)
abbrev Cx.caught (X:Cx) (a:Addr):Cx:={ X with A:=X.A.mark (some (.ref a)),calm:=false,xe:=λ_ _=>False }
section
variable {X:Cx}{pins:Ac}{U:St}{H:Hp}{s:Shared}{a C:Addr}{d:Option Addr}
def Inv.caught (I:Inv X pins U H s) (a:Addr):Inv (X.caught a) pins U H s :=
 ⟨⟨I.ok.mod,I.ok.kind,I.ok.glob,I.ok.blt,I.ok.above,I.ok.inj,I.ok.has,I.ok.cab,(λz=>nomatch z),I.ok.frames,I.ok.stk,I.ok.exf,I.ok.bs,I.ok.bsz,I.ok.noex,I.ok.exfs,I.ok.funs,I.ok.frf⟩,I.os,I.bare,I.base,I.loc,I.cell,I.free,I.freeC,I.pin,I.hok,I.len⟩
def Inv.uncaught (J:X.Ok) (I:Inv (X.caught a) pins U H s):Inv X pins U H s:=⟨J,I.os,I.bare,I.base,I.loc,I.cell,I.free,I.freeC,I.pin,I.hok,I.len⟩
def Inv.track {o:HO}(I:Inv X pins U H s) (ow:bb X pins H a) (new:aZ X.prog X.w (upd H a o) s.heap a o):Inv X pins U (upd H a o) s:=by
 have ne:∀b u,H b=some u->b≠a:=λb u e z=>by rw [z,ow.1] at e;cases e
 have t:=I.step (h':=s.heap) (H':=upd H a o) (g':=s.gens) (t':=s.toks) (d':=s.drawn) (ch:=[a]) (λb hb=>?_) (λb u _ _ _ e _=>e) (λb u _ _ _ e _=>⟨u.slots,e⟩) (λb u nb e n=>?_) (λb u _ e=>⟨u,e⟩) (λb xs e=>?_) (λb u v e=>?_) (λb ps e=>?_) (λm hm=>hm) (λb u e=>?_) I.bare
 ·exact t
 ·have z:b=a:=by simpa using hb
  rw [z]
  exact ⟨.inr ow.2.1,ow.2.2.1,ow.2.2.2.1,ow.2.2.2.2⟩
 ·rw [zW (λz=>nb (by simp [z]))];exact n
 ·rw [zW (ne b _ e)];exact e
 ·rw [zW (ne b _ e)];exact e
 ·exact ⟨#[],by rw [zW (ne b _ e),e];simp⟩
 ·by_cases z:b=a
  ·rw [z] at e ⊢
   rw [yx] at e
   cases e
   exact new
  ·rw [zW z] at e
   exact (I.hok b u e).stay (λ_ _ _ q=>q) (λc q=>by rw [zW (ne c _ q)];exact q) λc xs q=>by rw [zW (ne c _ q)];exact q
def Inv.catch {T:Addr}(I:Inv X pins U H s) (ow:bb X pins H a) (x:XO s.heap a (.ref C) d (.ref T)):Inv X pins U (upd H a (fF C d a)) s :=
 Inv.track I ow ⟨⟨T,x⟩,(let ⟨oe,_,e,_⟩:=x;⟨oe,e⟩),λh1 h2 p k=>let ⟨T,z⟩:=p;⟨T,z.keeps λo q=>k o q⟩⟩
def tU {M:Model}{A:Around}{E:Aa}{j:Nat}{n:Str}{pos:Pos}{Q:Unit->Shared->Prop}(I:Inv X pins U H s) (hN:X.N.Nodup) (hj:X.N[j]?=some n) (hk:X.env.scope.names.lookup n=some .local)
  (h:∀s',Inv X pins (U.set j none) H s'->Q () s'):wpAny M A (do bindName X.env n .none;unbindBehindTheSuite X.env n pos) Q E s:=by
 obtain ⟨m,hn,hl⟩:=id I.loc
 have fZ:(X.env.scope.kind == .class||(X.env.scope.kind == .module&&X.env.locals != X.env.globals))=false:=by rw [I.ok.kind];rfl
 have aF:j<U.length:=by rw [I.len];exact (yt.mp hj).1
 have cne:=I.cne
 obtain ⟨oL,_,_,l8,_⟩:=id hn
 refine wpAny_nameGoes_keeps hk hn fZ λh' v su hs=>?_
 refine h _ ⟨I.ok,I.os,I.bare,⟨λb o e n hb hx=>?_,λb o e n hb hx=>?_,I.base.free,λb o e hx=>?_,I.base.tups,I.base.frzs,I.base.tbls⟩,⟨_,su,λi y v' e1 e2 e3=>?_⟩,λy c e=>?_,I.free,I.freeC,λp hp=>?_,λb ob e=>?_,by simpa using I.len⟩
 ·exact (hs.2 b (yz (jd (yf e) I.ok.above))).trans (I.base.keep b o e n hb hx)
 ·obtain ⟨sl,e1⟩:=I.base.slot b o e n hb hx
  exact ⟨sl,(hs.2 b (yz (jd (yf e) I.ok.above))).trans e1⟩
 ·obtain ⟨o',e1⟩:=I.base.there b o e hx
  exact ⟨o',(hs.2 b (yz (jd (yf e) I.ok.above))).trans e1⟩
 ·by_cases hi:i=j
  ·subst hi
   rw [yM aF] at e2
   cases e2
  ·rw [yR (yD hi)] at e2
   obtain ⟨u',r',q⟩:=hl i y v' e1 e2 e3
   refine ⟨u',r',?_⟩
   rcases q with ⟨k,e⟩|⟨k,c,e,z⟩
   ·refine .inl ⟨k,?_⟩
    have:y≠n:=λe=>hi (sr hN e1 (e▸hj))
    simp [this,e]
   ·exact .inr ⟨k,c,e,z.sameBut hs (cne y c e)⟩
 ·obtain ⟨w',z⟩:=I.cell y c e
  exact ⟨w',z.sameBut hs (cne y c e)⟩
 ·obtain ⟨e,n,ne,nf,d⟩:=I.pin p hp
  exact ⟨(hs.2 p.1 ne).trans e,n,ne,nf,d⟩
 ·refine (I.hok b ob e).stay (λc w' hc q=>(hs.2 c ?_).trans q) (λ_ q=>q) λ_ _ q=>q
  rintro rfl
  rcases hc with rfl|hc
  ·rw [I.free] at e;cases e
  ·rw [I.free] at hc;cases hc
end
def JH (C:Addr) (i j:Nat) (tv:TX) (tsu:TS):TS:=λD U H=>tv U H (λv H1=>D.nx (U.set i (some v)) H1)
 (λc d H1=>c=.ref C/\∀a,H1 a=none->tsu { nx:=λai H'=>D.nx (ai.set j none) H',rt:=λ_ _=>False } (U.set j (some (.ref a))) (upd H1 a (fF C d a)))
def JI {X:Cx}{C:Addr}{i j:Nat}{x n cls:Str}{value:Expr}{tv:TX}{tsu:TS}{b0:Stmt}{bt:List Stmt}{xp ap cp hp pos:Pos}(hN:X.N.Nodup) (hi:X.N[i]?=some x) (hx:Loc X.env.scope x) (hj:X.N[j]?=some n) (hn:X.env.scope.names.lookup n=some .local)
  (hv:PX X value tv) (hg:Gl X cls) (hm:X.mg cls=some (.ref C)) (hC:eZ X.K C) (g7:∀a,bY (X.caught a) (b0::bt) tsu) (bw:X.stack=X.env::X.outer) (cK:X.env.frame=some X.env.locals)
  (gm:swapsWith value (some (.Name x xp)) ap.line X.env=pure false:=by rfl) (hf:X.fn x=true\/X.env.scope.names.lookup x=some .local:=by first|exact .inl rfl|exact .inr rfl|assumption) (bG:(cls==("__debug__" : Str))=false:=by decide) :
  PS X (.Try [.Assign [.Name x xp] value ap] [.ExceptHandler (some (.Name cls cp)) (some n) (b0::bt) hp] [] [] pos) (JH C i j tv tsu):=by
 intro pins s U H D I h
 rw [arm_exec_Try]
 refine zp (wpAny_standAt (wpAny_tryStmt_except (wpAny_execs_cons (wpAny_Assign_Name (yG (hv pins s U H _ _ I h) (λv s1 ⟨y,H1,I1,r1,q1⟩=>kg I1 hN hi hx r1 (λs2 I2=>?_) hf) (λu s1 ⟨a,C',d,H1,eu,I1,tV,ec,q⟩=>?_)) gm))))
 ·exact wpAny_execs_nil (wpAny_execs_nil ⟨_,H1,I2,q1⟩)
 subst eu
 cases ec
 refine tP I1 I.ok.frames bw cK tV λs2 T I2 x2 ne n6 oa oT=>nY I2 x2 ne n6 oa oT λs3 I3 x3 kL=>?_
 refine wpAny_handleBy_cons (codeAny_handlers_test ?_) (by intro q;cases q)
 refine iq (X:=X.caught a) (Inv.caught I3 a) hg hm ?_ bG
 obtain ⟨⟨nm,q',N,bs,bm,cj,sn,sub,ab,col,dd,k0,k1,k2,k3,k5,hl,ht,_⟩,_⟩:=hC
 have mm:=I3.kIn _ _ hl
 have bI:bm.contains (.type "BaseException")=true:=(tail_of_in I3.kIn ht).hasType (by decide)
 obtain ⟨oe,vs,he,fZ,_⟩:=id x3
 refine wpAny_excMatches_sub_self (h:=s3.heap) (g:=s3.gens) (d:=s3.drawn) (t:=s3.toks) (os:=s3.os) mm he fZ bI ?_
 refine codeAny_handlers_suite_as (nY I3 x3 ne kL oa oT λs4 I4 x4 JJ=>?_)
 have I5:=Inv.catch I4 oa x4
 refine kg I5 hN hj (.inl hn) (v:=.ref a) rfl (λs5 I6=>?_) (.inr hn)
 refine yG (g7 a pins s5 _ _ _ (Inv.caught I6 a) (q a oa.1)) (λf s6 z=>?_) λ_ _ z=>z.elim
 cases f with
 | next =>
  obtain ⟨ai,H',I7,q7⟩:=z
  exact tU (Inv.uncaught I.ok I7) hN hj hn λs7 I8=>⟨_,H',I8,q7⟩
 | brk=>obtain ⟨_,_,_,z⟩:=z;exact z.elim
 | cont=>obtain ⟨_,_,_,z⟩:=z;exact z.elim
 | ret u=>obtain ⟨_,_,_,_,_,z⟩:=z;exact z.elim
section
variable {X:Cx}{pins:Ac}{U:St}{H:Hp}{s:Shared}{a C d:Addr}{fs:List (Str×V)}{A:Around}{E:Aa}
def Bt (I:Inv X pins U H s) (ha:H a=some (fF C (some d) a)) (hd:H d=some (.xd fs)):∃ox od,InstAt s.heap a ox C (some od)/\∀n,∃o,lookIn n od=some o/\b_ (fs.lookup n) o:=by
 obtain ⟨T,oe,vs,e,hc,mj,tX,_⟩:=(show aZ X.prog X.w H s.heap a (fF C (some d) a) from I.hok a _ ha).1
 obtain ⟨mA,hn,r⟩:=(show aZ X.prog X.w H s.heap d (.xd fs) from I.hok d _ hd)
 obtain ⟨od,ho,hl⟩:=xV hn
 refine ⟨oe,od,⟨e,hc,by unfold notCls;rw [tX],by rw [mj];exact ho⟩,λn=>⟨mA n,hl n,r n⟩⟩
end
def e_.mk' {K:Frag}{C B N f:Addr}{nm q:Str}{bs:Af}{cj:Bool}{sn:Ad}{sub:Af}{ab:Bool}{col:Option Bool}{dd:Option Addr}{k0 k1 k2 k3 k5:Option Value}{c:Value}{d:Option Addr}{es:Array DictEntry}{n:Nat}{sl:Array (Option Value)}
  (hC:K.lookup C=some (excClassObj nm q C N bs (.ref B::c6) cj sn sub ab col dd k0 k1 k2 k3 k5 "ValueError.__new__")) (hB:excIn K B c6 "ValueError.__new__" = true)
  (hN:K.lookup N=some ⟨c,d,.dict es n,sl⟩) (he:(es.all λe=>match e.key with | .str _ _=>true|_=>false)=true) (hi:nsIn K N "__init__" = some (some (.ref f))) (fn:isFn K (.ref f)=true) (kp:keepIn K (.ref C)=true):e_ K C f:=by
 refine ⟨⟨nm,q,N,bs,_,cj,sn,sub,ab,col,dd,k0,k1,k2,k3,k5,hC,?_,?_,hi⟩,fn,kp⟩
 ·unfold excIn at hB
  split at hB
  ·rename_i dd cd sl ho
   split at hB
   ·simp only [j9,beq_iff_eq,Bool.not_eq_true'] at hB
    obtain ⟨⟨_,hok⟩,JK⟩:=hB
    unfold tailIn
    dsimp only
    rw [ho]
    have t0:tailIn K c6 c6=true:=by unfold tailIn;rw [beq_self_eq_true,Bool.true_or]
    simp only [hok,JK,beq_self_eq_true,Bool.true_and,t0,Bool.or_true]
   ·cases hB
  ·cases hB
 ·unfold nsOkIn
  rw [hN]
  exact he
def JL (X:Cx) (CX:dI) (k:Nat) (f:Addr) (sp:Sp):Prop:=∃fd ps,bp X.prog X.w X.K X.mg X.base CX k f fd ps sp/\keepIn X.K (.ref f)=true/\Binds X.K fd ps []
def JM (X:Cx) (CX:dI) (k:Nat) (E:XK) (tf:TE) (t:TA):TE:=λU H Q=>tf U H λv H0=>∃f sp,v=.ref f/\JL X CX k f sp/\t U H0 λvs H1=>sp vs H1 Q E
def JN {X:Cx}{CX:dI}{k:Nat}{E:XK}{x:Str}{p pos:Pos}{e:Expr}{es:List Expr}{tf:TE}{t:TA}(hf:PE X (.Name x p) tf) (hr:aW k X.A) (hx:Passes CX X E) (ha:PA X (e::es) t)
  (he:starEach (e::es) X.env=(false,eval e X.env)::starEach es X.env:=by rfl) (br:(backTo pos (starEach es X.env)).any (·.1)=false:=by rfl):PE X (.Call (.Name x p) (e::es) [] pos) (JM X CX k E tf t):=by
 intro pins s U H Q I h
 refine wpAny_Call_Name_kw (aU (hf pins s U H _ I h) λu s1 ⟨v,H0,I0,rv,f,sp,ev,⟨fd,ps,F,hk,hb⟩,q⟩=>?_)
 subst ev
 obtain rfl:u=Value.ref f:=rv
 refine PySem.W.callWith_K (h₀:=X.base) I.ok.mod.kin hk (aU (ha pos pins s1 U H0 _ I0 q) λus s2 ⟨vs,H1,I1,r,q1⟩=>⟨I1.kIn,?_⟩) he br
 exact p7 F hr hb .nil hx I1 r (by rw [List.append_nil];exact q1)
section
variable {prog:Program}{w:World}{A:Around}{E:Aa}{h:Heap}{g:Array GenState}{d:Drawn}{t:Nat}{os:OsState}
variable {nm q:Str}{C N:Addr}{bs bm tR:Af}{cj:Bool}{sn:Ad}{sub:Af}{ab:Bool}{col:Option Bool}{dd:Option Addr}{k0 k1 k2 k3 k5:Option Value}{B newId lK:String}
end
def n8 (C:Addr) (Er:XK):TS:=λ_ _ H=>Er (.ref C) none H
end L2
namespace L2
open PySem PySem.Spec PyProof.Rows PySem.W
def tY (X:Cx) (pins:Ac) (H:Hp) (h:Heap) (a C:Addr) (d:Option Addr):Prop :=
 ∃T,XO h a (.ref C) d (.ref T)/\T≠a/\TB h T (rawInt X.env.locals)/\bb X pins H a/\bb X pins H T
def tZ (X:Cx) (pins:Ac) (H:Hp) (h:Heap) (a C:Addr) (d:Option Addr):Prop:=qf X pins H h a C d\/tY X pins H h a C d
def jT (X:Cx) (E:XK):Prop:=∀(pins:Ac) (U:St) (H:Hp) (s:Shared) (a C:Addr) (d:Option Addr),Inv X pins U H s->tZ X pins H s.heap a C d->E (.ref C) d H->X.xe (.ref a) s
def jT.one {X:Cx}{E:XK}(t:jT X E):Throws X E:=λpins U H s a C d I F q=>t pins U H s a C d I (.inl F) q
def XA (X:Cx) (Er:XK) (e:Value) (s:Shared):Prop:=∃(pins:Ac) (U:St) (H:Hp) (a C:Addr) (d:Option Addr),e=.ref a/\Inv X pins U H s/\tZ X pins H s.heap a C d/\Er (.ref C) d H
section
variable {X:Cx}{pins:Ac}{U:St}{H:Hp}{s:Shared}{a C:Addr}{d:Option Addr}{A:Around}{E:Aa}{Q:Unit->Shared->Prop}{Er:XK}
def zE:jT (X.wish (XA X Er)) Er:=λpins U H s a C d I F q=>⟨pins,U,H,a,C,d,rfl,I.unwish,F,q⟩
def Bu (I:Inv X pins U H s) (cK:A.frames=some X.stack) (bw:X.stack=X.env::X.outer) (hf:X.env.frame=some X.env.locals) (F:tZ X pins H s.heap a C d)
  (h:∀s' T,Inv X pins U H s'->XO s'.heap a (.ref C) d (.ref T)->T≠a->TB s'.heap T (rawInt X.env.locals)->bb X pins H a->bb X pins H T->Q () s'):wpAny (model X.prog X.w) A (noteFrame (.ref a) X.env) Q E s:=by
 rcases F with F|⟨T,x,ne,tb,oa,oT⟩
 ·exact tP I cK bw hf F h
 ·obtain ⟨oe,vs,e,_,_,hd,_,h1⟩:=id x
  obtain ⟨ot,ts,et,tX,h3⟩:=id tb
  unfold noteFrame
  simp only [hf]
  refine zp (y9 e hd h1 ?_)
  rw [zu (show (Value.ref T != Value.none)=true by simp)]
  refine zp (y9 et tX h3 ?_)
  rw [zu (by simp)]
  exact zK (h s T I x ne tb oa oT)
def JO {T f:Addr}{fl:Value}(x:XO s.heap a (.ref C) d (.ref T)) (t:TB s.heap T fl) (ne:T≠a)
  (h:∀h',XO h' a (.ref C) d (.ref T)->TB h' T (rawInt f)->(∀b o,b≠T->s.heap.get? b=some o->h'.get? b=some o)->Q () { s with heap:=h' }) {M:Model}:wpAny M A (setFlight (.ref a) (some f)) Q E s:=by
 obtain ⟨oe,vs,e,_,_,hd,_,h1⟩:=id x
 obtain ⟨oT,ts,eT,hdT,h3⟩:=id t
 unfold setFlight
 refine zp (y9 e hd h1 ?_)
 rw [zu (show (Value.ref T != Value.none)=true by simp)]
 refine wpAny_setField eT hdT (Array.getElem?_eq_some_iff.mp h3).1 ?_
 exact h _ (x.keeps λo q=>(j8 _ _ ne).trans q) (t.set3 _) λb o nb q=>(j8 _ _ (yD nb)).trans q
def js (bw:X.stack=X.env::X.outer) (hf:X.env.frame=some X.env.locals):PassesOwn (model X.prog X.w) X.A X.env (XA X Er):=by
 rintro e s ⟨pins,U,H,a,C,d,rfl,I,F,q⟩
 unfold notedBy
 refine Bu I I.ok.frames bw hf F λs2 T I2 x2 ne n6 oa oT=>?_
 unfold cameBackBy
 obtain ⟨oe,vs,e2,_,_,hd,_,h1⟩:=id x2
 refine zp (y9 e2 hd h1 ?_)
 rw [zF (show ¬((Value.ref T==Value.none)=true) by simp),hf]
 refine JO x2 n6 ne λh' x3 kL k3=>⟨pins,U,H,a,C,d,rfl,?_,.inr ⟨T,x3,ne,kL,oa,oT⟩,q⟩
 exact I2.turned (t':=s2.toks) (it:=T) (λb o nb e=>k3 b o nb e) oT.1 oT.2.2.1 (.inr oT.2.1) oT.2.2.2.1 oT.2.2.2.2
def bY.throwing {st:List Stmt}{t:TS}(h:bY (X.wish (XA X Er)) st t) (ht:jT X Er):bY X st t:=λpins s U H D I hw =>
 yG (h pins s U H D (I.wish _) hw) (λ_ _ q=>q.unwish) λe s' ⟨pins,U,H,a,C,d,ee,I1,F,q⟩=>ee▸ht pins U H s' a C d I1 F q
def kM (t:jT X Er):Passes (bT X.prog X.w) X Er:=Jp t.one
end
def JP {P:Program}{w:World}{K:PySem.W.Frag}{mg:Ab}{base:Heap}{N:Ad}{qual:Str}{scope:Scope}{f:Addr}{cd:Value}{A:Around}{outer:List Env}{s:Shared}{H:Hp}{E:XK} :
  jT (dg (bT P w) P w K mg base N qual scope f cd A outer s H E) E:=by
 intro pins U H1 s1 a C d I F q
 show wpAny (model P w) (A.deeper (envOfC qual scope s.heap.objs.size f cd)) (leaving (envOfC qual scope s.heap.objs.size f cd) (.ref a)) _ _ s1
 unfold leaving
 refine zp (Bu I I.ok.frames rfl rfl F λs2 T I2 x ne tb oa oT=>nY I2 x ne tb oa oT λs3 I3 x3 kL=>?_)
 exact ⟨a,C,T,d,H1,rfl,I3.os,I3.bare,I3.base,I3.hok,x3,ne,kL,⟨oa.2.1,oa.1⟩,⟨oT.2.1,oT.1⟩,q⟩
section
variable {P:Program}{w:World}{K:PySem.W.Frag}{mg:Ab}{base:Heap}
def dJ.okT {x qual:Str}{st:Stmt}{f:Addr}{fd:FuncData}{N ps:Ad}{k:Nat}{sp:Sp}(F:dJ K x qual st f fd) (S:aa N ps (zD st)) (len:∀vs H Q E,sp vs H Q E->vs.length=ps.length)
  (eR:∀(aX:Value) (A:Around) (outer:List Env) (s:Shared) (H:Hp) (vs:List V) (Q:VK) (E:XK),aW k (A.deeper (envOfC qual (zD st) s.heap.objs.size f aX))->sp vs H Q E ->
   ∃t,bY ((dg (bT P w) P w K mg base N qual (zD st) f aX A outer s H E).wish (XA (dg (bT P w) P w K mg base N qual (zD st) f aX A outer s H E) E)) (je st) t/\t { nx:=λ_ H'=>Q .non H',rt:=Q } (start N vs) H):bp P w K mg base (bT P w) (k+1) f fd ps sp :=
 dJ.okX F S len λaX A outer s H vs Q E hr hs=>let ⟨t,h1,h2⟩:=eR aX A outer s H vs Q E hr hs;⟨t,bY.throwing h1 JP,h2⟩
end
end L2
namespace L2
open PySem PySem.Spec PyProof.Rows PySem.W PySem.Builtin PySem.Builtin.ObjectAttr
section
variable {prog:Program}{w:World}{A:Around}{E:Aa}{K:Frag}{x C:Addr}{s:Shared}{ox:Obj}{od:Option Obj}{name:Str}{tk:Tok}
structure gn (K:Frag) (C:Addr):Prop where
 ga:findIn K (.ref C) "__getattribute__" = some (some (.builtin "BaseException.__getattribute__"))
 hk:findIn K (.ref C) "__getattr__" = some none
 hB:mroIn K C (.type "BaseException")=some true
theorem Bv {fill expr:Bool}{Q:Aa}(X:K.In s.heap) (I:InstAt s.heap x ox C od) (G:gn K C)
  (h:wpAny (model prog w) A.in1 (Builtin.«object.__getattribute__» ⟨[.ref x,.str name tk],[]⟩) (λfin s'=>∃v,fin=.done (.ret v)/\handedIn v=true/\Q v s') (λ_ _=>False) s) :
  wpAny (model prog w) A (getAttrBy (.ref x) (.str name tk) fill expr) Q E s:=by
 have L0:=I.type (M:=model prog w)
 have L1:=looks_findIn (M:=model prog w) X G.ga
 have L2:=looks_findIn (M:=model prog w) X G.hk
 have JQ:Looks (model prog w) s.heap (isInstance (.ref x) (.type "BaseException")) true:=I.type.andThen (looks_mroIn X G.hB)
 unfold getAttrBy
 refine jN (zp (L0.here (zp (L1.here ?_))))
 dsimp only
 rw [zF (show ¬((onTheHeap (Value.ref C)&&Value.builtin "BaseException.__getattribute__" == Value.builtin "object.__getattribute__")=true) by
  rw [show (Value.builtin "BaseException.__getattribute__" == Value.builtin "object.__getattribute__")=false by decide +kernel,Bool.and_false];exact Bool.false_ne_true)]
 unfold getAttrByItsOwn hookBefore
 rw [zu (show onTheHeap (Value.ref C)=true from rfl)]
 refine zp (L2.here (zp (wpAny_attempt (jN ?_))))
 unfold callGetattribute
 rw [zF (show ¬((expr&&onTheHeap (Value.builtin "BaseException.__getattribute__"))=true) by cases expr<;>exact Bool.false_ne_true)]
 unfold boundAndCalled
 refine zp (wpAny_of_eq (PySem.F.excAttr_ValueError.ga.bind (.ref x)) ?_)
 refine wpAny_call (codeAny_call_builtin PySem.F.excAttr_ValueError.ga.plain PySem.F.entry_bexc_ga (@check_slot (model prog w) _ _ s "BaseException.__getattribute__" "BaseException" "__getattribute__" (.ref x) [.str name tk] [] _ (by decide +kernel) (by decide +kernel) JQ (PySem.F.args_bexc_ga (.ref x) (.str name tk)) ?_))
 refine yG h (λfin s' ⟨v,ef,hv,q⟩=>?_) λ_ _ z=>z.elim
 subst ef
 show wpAny _ _ (handedOut v) _ _ _
 rw [handedOut_of hv]
 exact zK q
def JR {v:Value}{Q:Fin->Shared->Prop}(X:K.In s.heap) (I:InstAt s.heap x ox C od) (hf:findObj K C od name=some (.value v)) (h:Q (.done (.ret v)) s) :
  wpAny (model prog w) A (Builtin.«object.__getattribute__» ⟨[.ref x,.str name tk],[]⟩) Q E s:=by
 have L0:=I.type (M:=model prog w)
 have L1:=looks_find (M:=model prog w) X I hf
 exact zp (zK (zp (zK (zp (L0.here (zp (L1.here (zK h))))))))
def JS {Q:Fin->Shared->Prop} (X:K.In s.heap) (I:InstAt s.heap x ox C od) (hf:findObj K C od "__class__" = some (.bind (.builtin "getset_descriptor.__get__") (.builtin "object.__class__"))) (hm:mroIn K C (.type "object")=some true)
  (h:Q (.done (.ret (.ref C))) s):wpAny (model prog w) A (Builtin.«object.__getattribute__» ⟨[.ref x,.str "__class__" tk],[]⟩) Q E s:=by
 have L0:=I.type (M:=model prog w)
 have L1:=looks_find (M:=model prog w) X I hf
 refine zp (zK (zp (zK (zp (L0.here (zp (L1.here ?_)))))))
 show wpAny _ _ (holding [.builtin "object.__class__"] (call (.builtin "getset_descriptor.__get__") [.builtin "object.__class__", .ref x,.ref C]) >>= ret) _ _ _
 exact zp (jN (wpAny_call (class_get (ox:=ox) (od:=od) X I hm (zK h))))
end
def JT {K:Frag} {x D:Addr} {ox:Obj} {od:Option Obj} (G:gn K D) (hcl:(clsIn K D).isSome=true) (hf:findObj K D od "__class__" = some (.bind (.builtin "getset_descriptor.__get__") (.builtin "object.__class__"))) (hm:mroIn K D (.type "object")=some true) :
  KitX K (.ref x) (.ref D) (λh=>InstAt h x ox D od):=by
 obtain ⟨cd,hc⟩:=Option.isSome_iff_exists.mp hcl
 unfold clsIn at hc
 split at hc
 ·rename_i c' d' V_ pM ho
  refine ⟨λ_ _ _ I=>I.type,λM h X _=>?_,λh tp dd its n sl X JU=>?_,λ{prog w A E Q s} X I k=>?_⟩
  ·intro A' Q' E' s' k q
   unfold isType loadHead
   exact zp (wpAny_loadPart (k _ _ (X _ _ ho)) (zK q))
  ·refine Bool.eq_false_iff.mpr λq=>?_
   obtain rfl:D=tp:=Value.ref.inj (beq_iff_eq.mp q)
   have z:=(X _ _ ho).symm.trans JU
   cases z
  ·unfold getAttr? getAttrBy?
   refine zp (wpAny_mkText (zp (wpAny_attempt ?_)))
   exact Bv (s:={ s with toks:=s.toks+1 }) X I G (JS (s:={ s with toks:=s.toks+1 }) X I hf hm ⟨_,rfl,rfl,zK k⟩)
 ·cases hc
structure lL (K:Frag) (C:Addr):Prop where
 g:gn K C
 hd:hasDictIn K C=true
 ha:findIn K (.ref C) "__class__" = some (some (.builtin "object.__class__"))
 hn:specialIn K (.builtin "object.__class__") "__get__" = some (some (.builtin "getset_descriptor.__get__"))
 tk:takesIn K (.builtin "object.__class__")=some true
 hm:mroIn K C (.type "object")=some true
section
variable {X:Cx}{pins:Ac}{U:St}{H:Hp}{s:Shared}{a C d:Addr}{fs:List (Str×V)}{A:Around}{E:Aa}
def JV {b:Bool}{f:Str}{v:V}{Q:Aa}(I:Inv X pins U H s) (ha:H a=some (fF C (some d) a)) (hd:H d=some (.xd fs)) (g:gn X.K C) (hh:hasDictIn X.K C=true) (no:findIn X.K (.ref C) f=some none) (l:fs.lookup f=some v)
  (h:∀u s',Inv X pins U H s'->RelV v u->Q u s'):wpAny (model X.prog X.w) A (getAttr (.ref a) f b) Q E s:=by
 obtain ⟨ox,od,J,hl⟩:=Bt I ha hd
 obtain ⟨o,ho,r⟩:=hl f
 rw [l] at r
 obtain ⟨u,rfl,ru⟩:=b_.some_of (v:=v) (o:=o) r
 unfold getAttr
 refine zp (wpAny_mkText ?_)
 exact Bv (s:={ s with toks:=s.toks+1 }) I.kIn J g (JR (s:={ s with toks:=s.toks+1 }) I.kIn J (findObj_own hh no rfl ho) ⟨u,rfl,xY ru,h u _ (I.tok _) ru⟩)
def JW {c:Value}{b:Bool}{Q:Aa}(I:Inv X pins U H s) (ha:H a=some (fF C (some d) a)) (hd:H d=some (.xd fs)) (k:lL X.K C) (e:kitOne X.K (.ref C) c=some b) (h:∀tk,Q (.bool b) { s with toks:=tk }) :
  wpAny (model X.prog X.w) A (call (.builtin "isinstance") [.ref a,c]) Q E s:=by
 obtain ⟨ox,od,J,_⟩:=Bt I ha hd
 have cl:(clsIn X.K C).isSome=true:=by obtain ⟨cd,hc,_⟩:=any_some k.hd;rw [hc];rfl
 exact kia_one (JT k.g cl (findObj_data cl k.ha k.hn k.tk) k.hm) I.kIn J e (λz=>nomatch z) h
end
end L2
namespace L2
open PySem PySem.Spec PyProof.Rows PySem.W
structure kN (prog:Program) (w:World) (it src:Addr) (xs:Array Value) (St:Nat->Heap->Prop):Prop where
 at_:∀{k h h'},St k h->(∀o,h.get? it=some o->h'.get? it=some o)->(∀o,h.get? src=some o->h'.get? src=some o)->St k h'
 lt:∀{k h},St k h->it<h.objs.size
 item:∀{A:Around} {E:Aa} {s:Shared} {k:Nat} {x:Value} {Q:Aa},St k s.heap->xs[k]?=some x->(∀h',St (k+1) h'->Heap.SameBut it s.heap h'->Q x { s with heap:=h' }) ->
  wpAny (model prog w) A (Builtin.SmallTypes.nextOf (.ref it)) Q E s
 stop:∀{A:Around} {E:Aa} {s:Shared} {k:Nat} {Q:Aa},A.handled=none->St k s.heap->xs[k]?=none ->
  (∀h' e,Heap.ExtBut it s.heap h'->(∃o,h'.get? e=some o/\o.cls=.type "StopIteration")->E (.ref e) { s with heap:=h' })->wpAny (model prog w) A (Builtin.SmallTypes.nextOf (.ref it)) Q E s
def n_ (it t:Addr) (xs:Array Value) (k:Nat) (h:Heap):Prop:=IsTupIter h it t k/\IsTup h t xs
def wQ {prog:Program}{w:World}{it t:Addr}{xs:Array Value}(ne:t≠it):kN prog w it t xs (n_ it t xs) where
 at_:=λ{k h h'} q k1 k2=>by
  obtain ⟨⟨o,ho,r⟩,⟨o',ho',r'⟩⟩:=q
  exact ⟨⟨o,k1 o ho,r⟩,⟨o',k2 o' ho',r'⟩⟩
 lt:=λq=>let ⟨⟨_,ho,_⟩,_⟩:=q;yf ho
 item:=λ{A E s k x Q} q hx hQ=>by
  obtain ⟨hit,ht⟩:=q
  obtain ⟨o,ho,hc,hd⟩:=id hit
  obtain ⟨ol,t_,_,nl,ua⟩:=id ht
  unfold Builtin.SmallTypes.nextOf
  refine zp (wpAny_callSpecial?_slot (name:=Str.ofString "__next__") hit.typeIs slot_tupleiter_next (jX slot_tupleiter_next hit.typeIs entry_tupleiter_next ?_ (args_tupleiter_next _)))
  change wpAny _ _ (field (.ref it) 0 >>= _) _ _ s
  refine zp (y9 ho hd (x:=.ref t) rfl ?_)
  rw [zF (by simp)]
  change wpAny _ _ (field (.ref it) 1 >>= _) _ _ s
  refine zp (y9 ho hd (x:=.int k 0) rfl ?_)
  change wpAny _ _ (seqItems? (.ref t) >>= _) _ _ s
  refine zp (wpAny_seqItems t_ ua ?_)
  simp only [hx,Int.toNat_natCast]
  have fl:=Obj.data_mapFields hd (·.setIfInBounds 1 (rawInt (k+1)))
  refine zp (wpAny_setField ho hd (by simp) (zK ⟨x,rfl,zK (hQ _ ⟨⟨_,Heap.get?_update_self _ ho (Obj.isFreed_of_fields fl),(Obj.cls_mapFields ..).trans hc,?_⟩,?_⟩ (Heap.SameBut.update ..))⟩))
  ·rw [fl];simp [rawInt]
  ·exact ht.extBut (Heap.SameBut.update ..).extBut ne
 stop:=λ{A E s k Q} hh q hx hE=>by
  obtain ⟨hit,ht⟩:=q
  obtain ⟨o,ho,hc,hd⟩:=id hit
  obtain ⟨ol,t_,_,nl,ua⟩:=id ht
  unfold Builtin.SmallTypes.nextOf
  refine zp (wpAny_callSpecial?_slot (name:=Str.ofString "__next__") hit.typeIs slot_tupleiter_next (jX slot_tupleiter_next hit.typeIs entry_tupleiter_next ?_ (args_tupleiter_next _)))
  change wpAny _ _ (field (.ref it) 0 >>= _) _ _ s
  refine zp (y9 ho hd (x:=.ref t) rfl ?_)
  rw [zF (by simp)]
  change wpAny _ _ (field (.ref it) 1 >>= _) _ _ s
  refine zp (y9 ho hd (x:=.int k 0) rfl ?_)
  change wpAny _ _ (seqItems? (.ref t) >>= _) _ _ s
  refine zp (wpAny_seqItems t_ ua ?_)
  simp only [hx,Int.toNat_natCast]
  refine zp (wpAny_rule (zp (wpAny_setField ho hd (by simp) ?_)))
  change wpAny _ _ (newExc (.type "StopIteration") [] >>= _) _ _ _
  refine zp ?_
  simp only [newExc,newTuple]
  refine zp (wO (zp (m:=firstArgMember _ _) (wpAny_of_eq (a:=Value.none) (by first|rfl|(simp only [firstArgMember];rfl)) (wO ?_ (by size_fits)))) (by size_fits))
  simp only [raiseNew]
  refine zp (wpAny_handled ?_)
  first|rw [show A.in1.handled=none from hh]|rw [hh]
  exact zp (zK (wpAny_throw (hE _ _ (((Heap.SameBut.update ..).extBut.push _).push _) ⟨_,yP _ rfl,rfl⟩)))
section
variable {prog:Program}{w:World}{A:Around}{E:Aa}{s:Shared}{z TI TO i1 i2 t1 t2:Addr}{k:Nat}{xs ys:Array Value}{x y a b:Value}{S1 S2:Nat->Heap->Prop}
def kN.by_same (S:kN prog w i1 t1 xs S1) {h h':Heap}{c:Addr}(q:S1 k h) (hs:Heap.SameBut c h h') (n1:i1≠c) (n2:t1≠c):S1 k h' :=
 S.at_ q (λo e=>hs.extBut _ _ n1 e) λo e=>hs.extBut _ _ n2 e
theorem JX {Q:Aa}(D:ZipApart z TI TO i1 i2 t1 t2) (U1:kN prog w i1 t1 xs S1) (U2:kN prog w i2 t2 ys S2) (hz:IsZip s.heap z TI TO .none) (fG:IsPair s.heap TI (.ref i1) (.ref i2)) (eE:IsPair s.heap TO a b)
  (q1:S1 k s.heap) (q2:S2 k s.heap) (hx:xs[k]?=some x) (hy:ys[k]?=some y)
  (hQ:∀h',IsZip h' z TI TO (rawInt s.heap.objs.size)->IsPair h' TO x y->S1 (k+1) h'->S2 (k+1) h'->IsPair h' s.heap.objs.size x y ->
   (∀c o,c≠z->c≠TO->c≠i1->c≠i2->s.heap.get? c=some o->h'.get? c=some o)->Q (.ref s.heap.objs.size) { s with heap:=h' }) :
  wpAny (model prog w) A (Builtin.«zip.__next__» ⟨[.ref z],[]⟩) (λfin s'=>∃v,fin=.done (.ret v)/\Q v s') E s:=by
 change wpAny _ _ (field (.ref z) 2 >>= _) _ _ _
 refine zp (y9 hz rfl (x:=.bool false) rfl ?_)
 change wpAny _ _ (field (.ref z) 3 >>= _) _ _ _
 refine zp (y9 hz rfl (x:=.ref TI) rfl (zp (wpAny_seqItems fG rfl ?_)))
 change wpAny _ _ (Builtin.SmallTypes.ownedTupleIsFree (.ref z) >>= _) _ _ _
 refine zp ?_
 unfold Builtin.SmallTypes.ownedTupleIsFree
 refine zp (y9 hz rfl (x:=.none) rfl (zK ?_))
 rw [zu rfl]
 refine zp (wpAny_rule (zp (y9 hz rfl (x:=.ref TO) rfl (zp (wpAny_setField_rec hz (by simp) λh1 z1 e1=>?_)))))
 replace z1:IsZip h1 z TI TO .ellipsis:=z1
 refine zp ?_
 simp only [List.zipIdx_cons,List.zipIdx_nil,List.forIn_cons,List.forIn_nil]
 refine zp (zp (wpAny_onRaise ?_))
 change wpAny _ _ (Builtin.SmallTypes.nextOf (.ref i1) >>= _) _ _ _
 refine zp (U1.item (U1.by_same q1 e1 D.i1z D.l1z) hx λh2 p2 e2=>zK ?_)
 have o2:IsPair h2 TO a b:=e2.extBut _ _ D.TOi1 (e1.extBut _ _ D.TOz eE)
 refine zp (wpAny_seqItems o2 rfl (zp (wpAny_updateSeq_pair o2 λh3 o3 e3=>?_)))
 replace o3:IsPair h3 TO x b:=o3
 refine zp (wpAny_letGo (zK (zp (zp (wpAny_onRaise ?_)))))
 change wpAny _ _ (Builtin.SmallTypes.nextOf (.ref i2) >>= _) _ _ _
 have r3:S2 k h3:=U2.by_same (U2.by_same (U2.by_same q2 e1 D.i2z D.l2z) e2 D.i12.symm D.l2i1) e3 D.TOi2.symm D.l2TO
 refine zp (U2.item r3 hy λh4 p4 e4=>zK ?_)
 have o4:IsPair h4 TO x b:=e4.extBut _ _ D.TOi2 o3
 refine zp (wpAny_seqItems o4 rfl (zp (wpAny_updateSeq_pair o4 λh5 o5 e5=>?_)))
 replace o5:IsPair h5 TO x y:=o5
 refine zp (wpAny_letGo (zK (zK (zp (wpAny_seqItems o5 rfl (zp (wpAny_newTuple ?_)))))))
 have sz:h5.objs.size=s.heap.objs.size:=by rw [e5.1,e4.1,e3.1,e2.1,e1.1]
 have z5:IsZip h5 z TI TO .ellipsis:=e5.extBut _ _ D.TOz.symm (e4.extBut _ _ D.i2z.symm (e3.extBut _ _ D.TOz.symm (e2.extBut _ _ D.i1z.symm z1)))
 have k5:∀c o,c≠z->c≠TO->c≠i1->c≠i2->s.heap.get? c=some o->h5.get? c=some o:=λc o c1 c2 c3 c4 e=>e5.extBut _ _ c2 (e4.extBut _ _ c4 (e3.extBut _ _ c2 (e2.extBut _ _ c3 (e1.extBut _ _ c1 e))))
 have f1:S1 (k+1) h5:=U1.by_same (U1.by_same (U1.by_same p2 e3 D.TOi1.symm D.l1TO) e4 D.i12 D.l1i2) e5 D.TOi1.symm D.l1TO
 have f2:S2 (k+1) h5:=U2.by_same p4 e5 D.TOi2.symm D.l2TO
 change wpAny _ _ (Builtin.SmallTypes.ownedTupleHandOut (.ref z) (.ref h5.objs.size) >>= _) _ _ _
 refine zp ?_
 unfold Builtin.SmallTypes.ownedTupleHandOut
 have z6:IsZip (h5.push { cls:=.type "tuple", data:=.seq #[x,y] }) z TI TO .ellipsis:=zZ _ z5
 refine zp (wpAny_setField_rec z6 (by simp) λh7 z7 e7=>?_)
 replace z7:IsZip h7 z TI TO (rawInt h5.objs.size):=z7
 refine wpAny_setField_rec z7 (by simp) λh8 z8 e8=>?_
 replace z8:IsZip h8 z TI TO (rawInt h5.objs.size):=z8
 have up:∀c o,c≠z->h5.get? c=some o->h8.get? c=some o:=λc o c1 e=>e8.extBut _ _ c1 (e7.extBut _ _ c1 (zZ _ e))
 have nz:h5.objs.size≠z:=Nat.ne_of_gt (yf z5)
 have pT:IsPair h8 h5.objs.size x y:=e8.extBut _ _ nz (e7.extBut _ _ nz (yP _ rfl))
 rw [sz] at z8 pT
 refine zK ⟨_,rfl,?_⟩
 change Q (.ref h5.objs.size) _
 rw [sz]
 exact hQ h8 z8 (up _ _ D.TOz o5) (U1.at_ f1 (λo e=>up _ o D.i1z e) λo e=>up _ o D.l1z e) (U2.at_ f2 (λo e=>up _ o D.i2z e) λo e=>up _ o D.l2z e) pT λc o c1 c2 c3 c4 e=>up c o c1 (k5 c o c1 c2 c3 c4 e)
def JY {Q:Fin->Shared->Prop}(hh:A.handled=none) (D:ZipApart z TI TO i1 i2 t1 t2) (U1:kN prog w i1 t1 xs S1) (U2:kN prog w i2 t2 ys S2) (hz:IsZip s.heap z TI TO .none) (fG:IsPair s.heap TI (.ref i1) (.ref i2)) (eE:IsPair s.heap TO a b)
  (q1:S1 k s.heap) (q2:S2 k s.heap) (he:xs[k]?=none\/ys[k]?=none)
  (hE:∀h' e,(∀c o,c≠z->c≠TO->c≠i1->c≠i2->s.heap.get? c=some o->h'.get? c=some o)->(∃o,h'.get? e=some o/\o.cls=.type "StopIteration")->E (.ref e) { s with heap:=h' }) :
  wpAny (model prog w) A (Builtin.«zip.__next__» ⟨[.ref z],[]⟩) Q E s:=by
 change wpAny _ _ (field (.ref z) 2 >>= _) _ _ _
 refine zp (y9 hz rfl (x:=.bool false) rfl ?_)
 change wpAny _ _ (field (.ref z) 3 >>= _) _ _ _
 refine zp (y9 hz rfl (x:=.ref TI) rfl (zp (wpAny_seqItems fG rfl ?_)))
 change wpAny _ _ (Builtin.SmallTypes.ownedTupleIsFree (.ref z) >>= _) _ _ _
 refine zp ?_
 unfold Builtin.SmallTypes.ownedTupleIsFree
 refine zp (y9 hz rfl (x:=.none) rfl (zK ?_))
 rw [zu rfl]
 refine zp (wpAny_rule (zp (y9 hz rfl (x:=.ref TO) rfl (zp (wpAny_setField_rec hz (by simp) λh1 z1 e1=>?_)))))
 replace z1:IsZip h1 z TI TO .ellipsis:=z1
 refine zp ?_
 simp only [List.zipIdx_cons,List.zipIdx_nil,List.forIn_cons,List.forIn_nil]
 refine zp (zp (wpAny_onRaise ?_))
 change wpAny _ _ (Builtin.SmallTypes.nextOf (.ref i1) >>= _) _ _ _
 have p1:=U1.by_same q1 e1 D.i1z D.l1z
 have Bw:∀{h:Heap} {e:Addr} {oe:Obj},IsZip h z TI TO .ellipsis->h.get? e=some oe->oe.cls=.type "StopIteration" -> e≠z:=λiz ho hc x=>by
  rw [x,iz] at ho
  cases ho
  simp at hc
 cases hx:xs[k]? with
 | none =>
  refine zp (U1.stop hh p1 hx λh2 e e2 ⟨oe,og,oh⟩=>?_)
  have z2:IsZip h2 z TI TO .ellipsis:=e2 _ _ D.i1z.symm z1
  exact wpAny_setField_rec z2 (by simp) λh3 _ e3=>hE h3 e (λc o c1 _ c3 _ x=>e3.extBut _ _ c1 (e2 _ _ c3 (e1.extBut _ _ c1 x))) ⟨oe,e3.extBut _ _ (Bw z2 og oh) og,oh⟩
 | some x =>
  have hy:ys[k]?=none:=by
   rcases he with h|h
   ·rw [hx] at h;cases h
   ·exact h
  refine zp (U1.item p1 hx λh2 p2 e2=>zK ?_)
  have o2:IsPair h2 TO a b:=e2.extBut _ _ D.TOi1 (e1.extBut _ _ D.TOz eE)
  refine zp (wpAny_seqItems o2 rfl (zp (wpAny_updateSeq_pair o2 λh3 o3 e3=>?_)))
  refine zp (wpAny_letGo (zK (zp (zp (wpAny_onRaise ?_)))))
  change wpAny _ _ (Builtin.SmallTypes.nextOf (.ref i2) >>= _) _ _ _
  have r3:S2 k h3:=U2.by_same (U2.by_same (U2.by_same q2 e1 D.i2z D.l2z) e2 D.i12.symm D.l2i1) e3 D.TOi2.symm D.l2TO
  refine zp (U2.stop hh r3 hy λh4 e e4 ⟨oe,og,oh⟩=>?_)
  have z4:IsZip h4 z TI TO .ellipsis:=e4 _ _ D.i2z.symm (e3.extBut _ _ D.TOz.symm (e2.extBut _ _ D.i1z.symm z1))
  exact wpAny_setField_rec z4 (by simp) λh5 _ e5=>hE h5 e (λc o c1 c2 c3 c4 x=>e5.extBut _ _ c1 (e4 _ _ c4 (e3.extBut _ _ c2 (e2.extBut _ _ c3 (e1.extBut _ _ c1 x))))) ⟨oe,e5.extBut _ _ (Bw z4 og oh) og,oh⟩
end
section
variable {X:Cx}{pins:Ac}{U:St}{H:Hp}{s:Shared}{h':Heap}
def Inv.turnL {ch:Ae}{t':Nat}(I:Inv X pins U H s) (hc:∀b∈ch,cO X pins H b) (k:∀b o,b∉ch->s.heap.get? b=some o->h'.get? b=some o):Inv X pins U H { s with heap:=h',toks:=t' }:=by
 have fY:∀b u,H b=some u->b∉ch:=λb u e z=>by rw [(hc b z).1] at e;cases e
 refine I.step (g':=s.gens) (d':=s.drawn) (ch:=ch) (λb hb=>?_) (λb o _ _ nb e _=>k b o nb e) (λb o _ _ nb e _=>⟨o.slots,k b o nb e⟩) (λ_ _ _ _ n=>n)
  (λb o nb e=>⟨o,k b o nb e⟩) (λ_ _ e=>e) (λ_ _ _ e=>e) (λb ps e=>⟨#[],by rw [e];simp⟩) (λm hm=>?_) (λb u e=>?_) I.bare
 ·obtain ⟨_,f1,_,f3,f4,f5⟩:=hc b hb
  exact ⟨f3,f1,f4,f5⟩
 ·obtain ⟨o,es,ep,ho,r⟩:=hm
  exact ⟨o,es,ep,k _ o (λz=>(hc _ z).2.1 rfl) ho,r⟩
 ·refine (I.hok b u e).stay (λc v cI q=>k c v ?_ q) (λ_ q=>q) λ_ _ q=>q
  rcases cI with z|z
  ·rw [z];exact fY b u e
  ·exact fY c _ z
def Inv.turnN {ch:Ae}{T:Addr}{o:HO}{t':Nat}(I:Inv X pins U H s) (hc:∀b∈ch,cO X pins H b) (k:∀b o,b∉ch->s.heap.get? b=some o->h'.get? b=some o) (hT:s.heap.objs.size<=T)
  (new:aZ X.prog X.w (upd H T o) h' T o):Inv X pins U (upd H T o) { s with heap:=h',toks:=t' }:=by
 have fT:H T=none:=I.hok.fresh hT
 have fY:∀b u,H b=some u->b∉ch:=λb u e z=>by rw [(hc b z).1] at e;cases e
 have nT:∀b u,H b=some u->b≠T:=λb u e z=>by rw [z,fT] at e;cases e
 refine I.step (g':=s.gens) (d':=s.drawn) (ch:=ch) (λb hb=>?_) (λb o _ _ nb e _=>k b o nb e) (λb o _ _ nb e _=>⟨o.slots,k b o nb e⟩) (λb u _ e n=>?_)
  (λb o nb e=>⟨o,k b o nb e⟩) (λb xs e=>?_) (λb u v e=>?_) (λb ps e=>⟨#[],?_⟩) (λm hm=>?_) (λb u e=>?_) I.bare
 ·obtain ⟨_,f1,_,f3,f4,f5⟩:=hc b hb
  exact ⟨f3,f1,f4,f5⟩
 ·rw [zW (yz (jd (yf e) hT))];exact n
 ·rw [zW (nT b _ e)];exact e
 ·rw [zW (nT b _ e)];exact e
 ·rw [zW (nT b _ e),e];simp
 ·obtain ⟨o,es,ep,ho,r⟩:=hm
  exact ⟨o,es,ep,k _ o (λz=>(hc _ z).2.1 rfl) ho,r⟩
 ·by_cases z:b=T
  ·rw [z] at e ⊢
   rw [yx] at e
   cases e
   exact new
  ·rw [zW z] at e
   refine (I.hok b u e).stay (λc v cI q=>k c v ?_ q) (λc q=>by rw [zW (nT c _ q)];exact q) λc xs q=>by rw [zW (nT c _ q)];exact q
   rcases cI with z|z
   ·rw [z];exact fY b u e
   ·exact fY c _ z
end
def uc (K:Frag) (a b:Addr):It :=
 ⟨λi H=>∃xs ys x y,bg K H a xs/\bg K H b ys/\xs[i]?=some x/\ys[i]?=some y,
  λi H v H'=>∃T x y,H T=none/\v=.ref T/\H'=upd H T (.tup [x,y])/\(∀xs,bg K H a xs->xs[i]?=some x)/\∀ys,bg K H b ys->ys[i]?=some y,
  λi H=>∃xs ys,bg K H a xs/\bg K H b ys/\(xs.length<=i\/ys.length<=i)⟩
def Bx (z TI TO i1 i2 a b:Addr) (k:Nat) (h:Heap):Prop:=IsZip h z TI TO .none/\IsPair h TI (.ref i1) (.ref i2)/\(∃u v,IsPair h TO u v)/\IsTupIter h i1 a k/\IsTupIter h i2 b k
def mq {X:Cx}{pins:Ac}{U:St}{H:Hp}{s:Shared}{a c:Addr}{xs:List V}(I:Inv X pins U H s) (hf:cO X pins H c) (hq:bg X.K H a xs):a≠c:=by
 rintro rfl
 rcases hq with q|⟨o,its,n,hl,_⟩
 ·rcases q with q|⟨ob,q⟩<;>(rw [hf.1] at q;cases q)
 ·have e:=I.ok.mod.kin _ _ hl
  rcases hf.2.2.2.1 with z|z
  ·exact I.ok.noex _ _ e z
  ·exact absurd (jd (yf (I.ok.bs _ _ e).1) z) (Nat.lt_irrefl _)
structure By (z TI TO i1 i2:Addr):Prop where
 TIz:TI≠z
 TOz:TO≠z
 i1z:i1≠z
 i2z:i2≠z
 TITO:TI≠TO
 TIi1:TI≠i1
 TIi2:TI≠i2
 TOi1:TO≠i1
 TOi2:TO≠i2
 i12:i1≠i2
theorem JZ {P:Program}{w:World}{K:Frag}{elts:List Expr}{kt:Nat}{pos:Pos}{z TI TO i1 i2 a b:Addr}(V5:By z TI TO i1 i2):Turn P w K (.Tuple elts kt pos) (uc K a b) [z,TI,TO,i1,i2] z (Bx z TI TO i1 i2 a b) where
 mem:=by simp
 obj:=λi h st c hc=>by
  obtain ⟨hz,fG,⟨u,v,eE⟩,⟨o1,e1,_,d1⟩,⟨o2,e2,_,d2⟩⟩:=st
  simp only [yE,List.not_mem_nil,wP] at hc
  rcases hc with q|q|q|q|q<;>rw [q]
  ·exact ⟨_,hz,λv z=>by cases z⟩
  ·exact ⟨_,fG,λv z=>by cases z⟩
  ·exact ⟨_,eE,λv z=>by cases z⟩
  ·exact ⟨_,e1,λv z=>by rw [d1] at z;cases z⟩
  ·exact ⟨_,e2,λv z=>by rw [d2] at z;cases z⟩
 keep:=λi h h' st k=>by
  obtain ⟨hz,fG,⟨u,v,eE⟩,⟨o1,e1,r1⟩,⟨o2,e2,r2⟩⟩:=st
  exact ⟨k z (by simp) _ hz,k TI (by simp) _ fG,⟨u,v,k TO (by simp) _ eE⟩,⟨o1,k i1 (by simp) _ e1,r1⟩,⟨o2,k i2 (by simp) _ e2,r2⟩⟩
 item:=by
  intro X hP hw hK hc i pins s U H E I hf st hg
  subst hP hw hK
  obtain ⟨xs,ys,x,y,iI,g8,hx,hy⟩:=hg
  obtain ⟨hz,fG,⟨u0,v0,eE⟩,qh,qi⟩:=st
  obtain ⟨rX,ud,p1,_⟩:=I.tuple iI
  obtain ⟨aV,ue,p2,_⟩:=I.tuple g8
  obtain ⟨u,hu,ru⟩:=ud.get hx
  obtain ⟨v,hv,rv⟩:=ue.get hy
  have n1:∀c∈[z,TI,TO,i1,i2],a≠c:=λc h=>mq I (hf c h) iI
  have n2:∀c∈[z,TI,TO,i1,i2],b≠c:=λc h=>mq I (hf c h) g8
  have D:ZipApart z TI TO i1 i2 a b:=⟨V5.TIz,V5.TOz,V5.i1z,V5.i2z,V5.TITO,V5.TIi1,V5.TIi2,V5.TOi1,V5.TOi2,V5.i12,n1 z (by simp),n1 TO (by simp),n1 i1 (by simp),n1 i2 (by simp),n2 z (by simp),n2 TO (by simp),n2 i1 (by simp),n2 i2 (by simp)⟩
  have hT:s.TypeIs (.ref z) "zip" := ⟨_,hz,rfl⟩
  unfold pyNext
  refine zp (wpAny_attempt (wpAny_callSpecial?_slot (name:=Str.ofString "__next__") hT F.slot_zip_next (jX F.slot_zip_next hT F.entry_zip_next
   (JX D (wQ D.l1i1) (wQ D.l2i2) hz fG eE ⟨qh,p1⟩ ⟨qi,p2⟩ (by simpa using hu) (by simpa using hv) λh1 z1 o1 f1 f2 pT kk=>zK ⟨_,rfl,?_⟩) (F.args_zip_next_1 _))))
  refine wpAny_letOwnedTupleGo_zip (s:={ s with heap:=h1 }) z1 λh2 z2 e2=>?_
  have fr:H s.heap.objs.size=none:=I.hok.fresh (yd _)
  have up:∀c o,c≠z->h1.get? c=some o->h2.get? c=some o:=λc o n e=>e2.extBut _ _ n e
  have nz:s.heap.objs.size≠z:=Nat.ne_of_gt (yf hz)
  have k2:∀c o,c∉[z,TI,TO,i1,i2]->s.heap.get? c=some o->h2.get? c=some o:=λc o nc e =>
   up c o (λq=>nc (by simp [q])) (kk c o (λq=>nc (by simp [q])) (λq=>nc (by simp [q])) (λq=>nc (by simp [q])) (λq=>nc (by simp [q])) e)
  refine ⟨.ref s.heap.objs.size,upd H s.heap.objs.size (.tup [x,y]),?_,rfl,⟨s.heap.objs.size,x,y,fr,rfl,rfl,λcU h'=>by rw [I.tuple_inj h' iI];exact hx,λfH h'=>by rw [I.tuple_inj h' g8];exact hy⟩,?_,λc cI=>?_⟩
  ·exact Inv.turnN (s:=s) (h':=h2) (t':=s.toks) I hf k2 (yd _) ⟨show 2<=sizeLine by decide,[u,v],.cons ru (.cons rv .nil),_,up _ _ nz pT,rfl,_,rfl⟩
  ·exact ⟨z2,up _ _ D.TIz (kk _ _ D.TIz D.TITO D.TIi1 D.TIi2 fG),⟨_,_,up _ _ D.TOz o1⟩,(let ⟨o,e,r⟩:=f1.1;⟨o,up _ _ D.i1z e,r⟩),(let ⟨o,e,r⟩:=f2.1;⟨o,up _ _ D.i2z e,r⟩)⟩
  ·have q:c≠s.heap.objs.size:=by
    have lt:∃o,s.heap.get? c=some o:=by
     simp only [yE,List.not_mem_nil,wP] at cI
     rcases cI with q|q|q|q|q<;>rw [q]
     ·exact ⟨_,hz⟩
     ·exact ⟨_,fG⟩
     ·exact ⟨_,eE⟩
     ·exact let ⟨o,e,_⟩:=qh;⟨o,e⟩
     ·exact let ⟨o,e,_⟩:=qi;⟨o,e⟩
    obtain ⟨o,e⟩:=lt
    exact yz (yf e)
   rw [zW q]
   exact (hf c cI).1
 done:=by
  intro X hP hw hK hc i pins s U H E I hf st hg
  subst hP hw hK
  obtain ⟨xs,ys,iI,g8,hx⟩:=hg
  obtain ⟨hz,fG,⟨u0,v0,eE⟩,qh,qi⟩:=st
  obtain ⟨rX,ud,p1,_⟩:=I.tuple iI
  obtain ⟨aV,ue,p2,_⟩:=I.tuple g8
  have l1:=ud.length
  have l2:=ue.length
  have n1:∀c∈[z,TI,TO,i1,i2],a≠c:=λc h=>mq I (hf c h) iI
  have n2:∀c∈[z,TI,TO,i1,i2],b≠c:=λc h=>mq I (hf c h) g8
  have D:ZipApart z TI TO i1 i2 a b:=⟨V5.TIz,V5.TOz,V5.i1z,V5.i2z,V5.TITO,V5.TIi1,V5.TIi2,V5.TOi1,V5.TOi2,V5.i12,n1 z (by simp),n1 TO (by simp),n1 i1 (by simp),n1 i2 (by simp),n2 z (by simp),n2 TO (by simp),n2 i1 (by simp),n2 i2 (by simp)⟩
  have hT:s.TypeIs (.ref z) "zip" := ⟨_,hz,rfl⟩
  unfold pyNext
  refine zp (wpAny_attempt (wpAny_callSpecial?_slot (name:=Str.ofString "__next__") hT F.slot_zip_next (jX F.slot_zip_next hT F.entry_zip_next
   (JY (I.ok.hd hc) D (wQ D.l1i1) (wQ D.l2i2) hz fG eE ⟨qh,p1⟩ ⟨qi,p2⟩ (hx.imp (λh=>by simp;omega) λh=>by simp;omega) λh1 e kk he=>?_) (F.args_zip_next_1 _))))
  obtain ⟨o,ho,J1⟩:=he
  refine zp (wpAny_isInstance (T := "StopIteration") (b:=true) ⟨o,ho,J1⟩ isSubtype_stop ?_)
  exact zK ⟨rfl,Inv.turnL (t':=s.toks) I hf λc o nc e=>kk c o (λq=>nc (by simp [q])) (λq=>nc (by simp [q])) (λq=>nc (by simp [q])) (λq=>nc (by simp [q])) e⟩
 self:=λ_ _ _ _ _ st h=>wpAny_pyIter_zip st.1 h
abbrev qj (h:Heap) (a:Addr):Heap:=h.push { cls:=.type "tuple_iterator", data:=.fields #[.ref a,.int 0 0] }
abbrev qk (h:Heap) (a b:Addr):Heap:=(qj h a).push { cls:=.type "tuple_iterator", data:=.fields #[.ref b,.int 0 0] }
abbrev ql (h:Heap) (a b:Addr):Heap:=(qk h a b).push { cls:=.type "tuple", data:=.seq #[.ref h.objs.size,.ref (qj h a).objs.size] }
abbrev qm (h:Heap) (a b:Addr):Heap:=(ql h a b).push { cls:=.type "tuple", data:=.seq #[.none,.none] }
abbrev wR (h:Heap) (a b:Addr):Heap:=(qm h a b).push { cls:=.type "zip", data:=.fields #[.none,.bool false,.bool false,.ref (qk h a b).objs.size,.ref (ql h a b).objs.size] }
def J2 (a b:Addr) (xs ys:Array Value) :
  Meets (Builtin.«zip.__new__» ⟨[.type "zip", .ref a,.ref b],[]⟩) (λ_ R s=>IsTup s.heap a xs/\IsTup s.heap b ys/\R (.ok (.ret (.ref (qm s.heap a b).objs.size))) { s with heap:=wR s.heap a b }) :=
 .of_wp λprog w A R s h=>by
  obtain ⟨hp,g,d,tk,os⟩:=s
  obtain ⟨h1,h2,h⟩:=h
  have Bz:=sub_zip
  have H1:IsTup (Shared.heap ⟨hp,g,d,tk,os⟩) a xs:=h1
  have H2:IsTup (Shared.heap ⟨hp.push { cls:=.type "tuple_iterator", data:=.fields #[.ref a,.int 0 0] },g,d,tk,os⟩) b ys:=h2.push _
  wp_walk using iter_tuple H1,iter_tuple H2
  exact ⟨_,rfl,h⟩
section
variable {prog:Program}{w:World}{A:Around}{E:Aa}{s:Shared}
def J3 {a b:Addr}{xs ys:Array Value}{Q:Aa}(h1:IsTup s.heap a xs) (h2:IsTup s.heap b ys)
  (h:Bx (s.heap.objs.size+4) (s.heap.objs.size+2) (s.heap.objs.size+3) s.heap.objs.size (s.heap.objs.size+1) a b 0 (wR s.heap a b)->Q (.ref (s.heap.objs.size+4)) { s with heap:=wR s.heap a b }) :
  wpAny (model prog w) A (call (.type "zip") [.ref a,.ref b]) Q E s:=by
 refine callType_new F.called_zip (by decide) (F.typeCall_zip_2 _ _) (F.newCall_zip_2 _ _) (λobj=>F.args_object_init_3 obj _ _) F.entry_zip_new (J2 a b xs ys) ⟨h1,h2,?_⟩
 have z1:(qj s.heap a).objs.size=s.heap.objs.size+1:=Heap.size_push ..
 have z2:(qk s.heap a b).objs.size=s.heap.objs.size+2:=by rw [Heap.size_push,z1]
 have z3:(ql s.heap a b).objs.size=s.heap.objs.size+3:=by rw [Heap.size_push,z2]
 have z4:(qm s.heap a b).objs.size=s.heap.objs.size+4:=by rw [Heap.size_push,z3]
 have g5:(wR s.heap a b).get? (qm s.heap a b).objs.size=some _:=yP _ rfl
 have g4:(wR s.heap a b).get? (ql s.heap a b).objs.size=some _:=zZ _ (yP _ rfl)
 have g3:(wR s.heap a b).get? (qk s.heap a b).objs.size=some _:=zZ _ (zZ _ (yP _ rfl))
 have g2:(wR s.heap a b).get? (qj s.heap a).objs.size=some _:=zZ _ (zZ _ (zZ _ (yP _ rfl)))
 have g1:(wR s.heap a b).get? s.heap.objs.size=some _:=zZ _ (zZ _ (zZ _ (zZ _ (yP _ rfl))))
 show _/\_
 rw [z2,z3,z4] at g5
 rw [z1,z2] at g3
 rw [z3] at g4
 rw [z1] at g2
 rw [z4]
 exact ⟨⟨_,g5,rfl⟩,h ⟨g5,g3,⟨_,_,g4⟩,⟨_,g1,rfl,rfl⟩,⟨_,g2,rfl,rfl⟩⟩⟩
end
theorem J4:bootBuiltins "zip" = some (.type "zip"):=by decide +kernel
def J5 (K:Frag) (ta:TA):TI:=λU H R=>ta U H λvs H1=>∃a b,vs=[.ref a,.ref b]/\(∃xs,bg K H1 a xs)/\(∃ys,bg K H1 b ys)/\R (uc K a b) H1
theorem J6 {X:Cx} {elts:List Expr} {kt:Nat} {tp:Pos} {x y:Expr} {ta:TA} {p pos:Pos} (hg:Gl X "zip") (hm:X.mg "zip" = none) (ha:PA X [x,y] ta) (hs:starEach [x,y] X.env=[(false,eval x X.env),(false,eval y X.env)]:=by rfl) (fC:starEach [y] X.env=[(false,eval y X.env)]:=by rfl) :
  PI X (.Tuple elts kt tp) (.Call (.Name "zip" p) [x,y] [] pos) (J5 X.K ta):=by
 intro pins s U H R I h
 refine Call_ (iu I hg hm J4 (PyProof.Rows.callWith_type1 (aU (ha pos pins s U H _ I h) λus s1 ⟨vs,H1,I1,r1,q1⟩=>?_) (by rw [hs,fC]) (by rw [fC];rfl)))
 obtain ⟨a,b,e,⟨xs,iI⟩,⟨ys,g8⟩,q⟩:=q1
 subst e
 obtain ⟨u,v,rfl,ru,rv⟩:=xT r1
 obtain rfl:u=Value.ref a:=ru
 obtain rfl:v=Value.ref b:=rv
 obtain ⟨rX,_,p1,_⟩:=I1.tuple iI
 obtain ⟨aV,_,p2,_⟩:=I1.tuple g8
 refine J3 p1 p2 λst=>wpAny_pyIter_zip st.1 ?_
 have kk:∀c o,s1.heap.get? c=some o->(wR s1.heap a b).get? c=some o:=λc o e=>zZ _ (zZ _ (zZ _ (zZ _ (zZ _ e))))
 refine ⟨_,[s1.heap.objs.size+4,s1.heap.objs.size+2,s1.heap.objs.size+3,s1.heap.objs.size,s1.heap.objs.size+1],_,_,H1,rfl,I1.kept (t':=s1.toks) kk,JZ ?_,st,λc hc=>?_,q⟩
 ·have ne:∀(n i j:Nat),i≠j->n+i≠n+j:=λn i j h z=>h (Nat.add_left_cancel z)
  have qo:∀(n i:Nat),i≠0->n+i≠n:=λn i h z=>h (by omega)
  exact ⟨ne _ 2 4 (by decide),ne _ 3 4 (by decide),(qo _ 4 (by decide)).symm,ne _ 1 4 (by decide),ne _ 2 3 (by decide),qo _ 2 (by decide),ne _ 2 1 (by decide),qo _ 3 (by decide),ne _ 3 1 (by decide),(qo _ 1 (by decide)).symm⟩
 ·have le:s1.heap.objs.size<=c:=by
   simp only [yE,List.not_mem_nil,wP] at hc
   rcases hc with q|q|q|q|q<;>rw [q]<;>first|exact yd _|exact Nat.le_add_right _ _
  exact I1.fpOk le (I1.hok.fresh le)
structure KD (X:Cx) (a:Addr):Prop where
 ob:∃es n,X.K.lookup a=some ⟨.type "dict", none,.dict es n,#[]⟩/\KeysLit X.w.params es.toList
 no:(a==sysModules)=false
section
variable {X:Cx}
def J7:eV X (λx y H Q=>∃a z u v,x=.ref a/\y=.str z/\KD X a/\nsIn X.K a z=some (some u)/\RelV v u/\Q v H):=by
 intro a b pins s U H x y v u Q I rx ry h hs
 obtain ⟨p,z,u',v',rfl,rfl,⟨⟨es,n,hl,hk⟩,_⟩,e,rv,q⟩:=h
 obtain rfl:v=Value.ref p:=rx
 obtain ⟨t,rfl⟩:=ry
 obtain ⟨m,F⟩:=I.fr
 exact topItem_K F I.ok.mod.kin hl hk e ⟨v',H,I.tok _,rv,q⟩ hs
def J8:ba X (compareOp .NotIn) (λx y H Q=>∃a z r,x=.str z/\y=.ref a/\KD X a/\nsIn X.K a z=some r/\Q (.bl (!r.isSome)) H):=by
 intro pins s U H x y v u Q I rx ry h
 obtain ⟨p,z,r,rfl,rfl,⟨⟨es,n,hl,hk⟩,no⟩,e,q⟩:=h
 obtain rfl:u=Value.ref p:=ry
 obtain ⟨t,rfl⟩:=rx
 refine wpAny_notIn_of (strKind_is X.prog X.w z t) no (mapOf_K (prog:=X.prog) I.kIn hl hk) ?_
 rw [find_K hl e]
 exact ⟨.bl (!r.isSome),H,I.tok _,rfl,q⟩
end
end L2
namespace Mi
open PySem L2 PySem.W
inductive PV where
 | non|bl (b:Bool)|int (i:Int)|str (x:Str)|ty (n:String)
 | tup (xs:List PV)|frl (xs:List PV)|ref (n:Nat)|fn (x:Str)|kd (ks:Ad) (xs:List PV)|exo (c:Str) (ks:Ad) (xs:List PV)
inductive SO where
 | lst (xs:List PV)|dic (ks:Ad) (xs:List PV)|ins (c:Str) (ks:Ad) (xs:List PV)|fdi (ks:Ad) (xs:List PV)|dit (ks:List (List Key)) (xs:List PV)
abbrev ao:=List SO
inductive Res (α:Type) where
 | ok (a:α) (st:ao)|err (c:Str) (ks:Ad) (xs:List PV) (st:ao)|stuck
abbrev Mo (α:Type):=ao->Res α
def Res.bind {α β:Type}:Res α->(α->Mo β)->Res β
 | .ok a st,f=>f a st
 | .err c ks xs st,_=>.err c ks xs st
 | .stuck,_=>.stuck
abbrev zc:=List (Option PV)
def J9 (K:Frag) (a:Addr) (ks:Ad) (us:Af):Prop:=∀z,nsIn K a z=some ((ks.zip us).lookup z)
def g9 (K:Frag) (H:Hp) (a:Addr) (vs:List V):Prop :=
 (∃o,H a=some (.frz o (.lst vs)))\/∃(o:Obj) (its:Array Value) (n:Nat),K.lookup a=some o/\o.cls=.type "list" /\ o.dict=none/\o.data=.seq its n/\its.size<=sizeLine/\Vals vs its.toList
def g9.sq {K:Frag}{H:Hp}{a:Addr}{vs:List V}(h:g9 K H a vs):bo K H a vs:=by
 rcases h with ⟨o,h⟩|h
 ·exact .inl (.inr ⟨o,h⟩)
 ·exact .inr h
section
variable (K:Frag) (mg:Ab)
mutual
def R (ρ:Ae) (H:Hp):PV->V->Prop
 | .non,v=>v=.non
 | .bl b,v=>v=.bl b
 | .int i,v=>v=.int i
 | .str x,v=>v=.str x
 | .ty n,v=>v=.ty n
 | .tup xs,v=>∃a vs,v=.ref a/\bg K H a vs/\Rs ρ H xs vs
 | .frl xs,v=>∃a vs,v=.ref a/\g9 K H a vs/\Rs ρ H xs vs
 | .ref n,v=>∃a,v=.ref a/\ρ[n]?=some a
 | .fn x,v=>∃f,v=.ref f/\mg x=some (.ref f)
 | .kd ks xs,v=>∃a us vs,v=.ref a/\J9 K a ks us/\Vals vs us/\Rs ρ H xs vs
 | .exo c ks xs,v=>∃a C d vs,v=.ref a/\mg c=some (.ref C)/\H a=some (fF C (some d) a)/\H d=some (.xd (ks.zip vs))/\Rs ρ H xs vs/\ks.length=vs.length
def Rs (ρ:Ae) (H:Hp):List PV->List V->Prop
 | [],vs=>vs=[]
 | x::xs,vs=>∃v r,vs=v::r/\R ρ H x v/\Rs ρ H xs r
end
def dE (a:Addr) (its:List (List Key×Addr×Value)):HO:=.ext λP w h=>its.length<=sizeLine/\(a==sysModules)=false /\
 ∃o es ep,h.get? a=some o/\o.ExactDict/\o.data=.dict es ep/\es.toList=its.map (entryOfKey (tupleKind (aY P w)))/\(its.map (·.1)).Nodup
def gI (ρ:Ae) (H:Hp):SO->Addr->Prop
 | .lst xs,a=>∃vs,H a=some (.lst vs)/\Rs K mg ρ H xs vs
 | .dic ks xs,a=>∃vs,H a=some (.dK ((ks.map Sum.inr).zip vs))/\Rs K mg ρ H xs vs/\ks.length=vs.length
 | .ins c ks xs,a=>∃C dx vs,mg c=some (.ref C)/\H a=some (.ins C dx (ks.zip vs))/\Rs K mg ρ H xs vs/\ks.length=vs.length
 | .fdi ks xs,a=>∃o vs,H a=some (.frz o (.dK ((ks.map Sum.inr).zip vs)))/\Rs K mg ρ H xs vs/\ks.length=vs.length
 | .dit ks xs,a=>∃its vs,H a=some (dE a its)/\its.map (·.1)=ks/\(∀x,x∈its->bg K H x.2.1 (x.1.map kV))/\Vals vs (its.map (·.2.2))/\Rs K mg ρ H xs vs
structure bf (ρ:Ae) (H:Hp) (st:ao):Prop where
 len:ρ.length=st.length
 nd:ρ.Nodup
 at_:∀(n:Nat) so,st[n]?=some so->∃a,ρ[n]?=some a/\gI K mg ρ H so a
def Still (φ:Program->World->Heap->Prop):Prop:=∀P w,∃h:Heap,φ P w h/\∀b o es ep,h.get? b=some o->o.data ≠ .dict es ep
open Classical in
noncomputable def qp:HO->Bool
 | .tup _=>true
 | .frz _ _=>true
 | .xd _=>true
 | .ext φ=>decide (Still φ)
 | _=>false
structure Ext (ρ:Ae) (H:Hp) (aj:Ae) (H':Hp):Prop where
 pre:∃δ,aj=ρ++δ
 imm:∀a o,H a=some o->qp o=true->H' a=some o
def J_ {C:Addr}{d:Option Addr}{a:Addr}:qp (fF C d a)=true:=by
 have st:Still λ_ _ h=>∃T:Addr,XO h a (.ref C) d (.ref T):=λP w=>by
  have g:∀b,(Heap.mk (Array.replicate (a+1) { cls:=.ref C,dict:=d,data:=.fields #[.none,.ref 0,.none,.none,.none,.none] }) {}).get? b=if b<a+1 then some { cls:=.ref C,dict:=d,data:=.fields #[.none,.ref 0,.none,.none,.none,.none] } else none:=by
   intro b
   unfold Heap.get?
   by_cases hb:b<a+1
   ·simp [Array.getElem?_replicate,hb]
   ·simp [Array.getElem?_replicate,hb]
  refine ⟨_,⟨0,_,_,(g a).trans (zu (jS a)),rfl,rfl,rfl,rfl,rfl⟩,λb o es ep e=>?_⟩
  rw [g b] at e
  split at e
  ·cases e;intro z;cases z
  ·cases e
 exact @decide_eq_true _ (Classical.propDecidable _) st
def Ka (P:Program) (w:World) {a:Addr}{its:List (List Key×Addr×Value)}:qp (dE a its)=false:=by
 refine @decide_eq_false _ (Classical.propDecidable _) λst=>?_
 obtain ⟨h,⟨_,_,o,es,ep,e,_,d,_⟩,n⟩:=st P w
 exact n _ _ _ _ e d
def XR (ρ:Ae) (H:Hp) (c:Str) (ks:Ad) (xs:List PV) (Cv:Value) (d:Option Addr):Prop :=
 ∃C,Cv=.ref C/\mg c=some (.ref C)/\((ks=[]/\d=none)\/∃dd vs,d=some dd/\H dd=some (.xd (ks.zip vs))/\Rs K mg ρ H xs vs/\ks.length=vs.length)
def Out {α:Type}(ρ:Ae) (H:Hp) (r:Res α) (good:List Addr->Hp->α->ao->Prop) (E:XK):Prop :=
 match r with
 | .ok x st=>∀aj H',Ext ρ H aj H'->bf K mg aj H' st->good aj H' x st
 | .err c ks xs st=>∀aj H' C d,Ext ρ H aj H'->bf K mg aj H' st->XR K mg aj H' c ks xs C d->E C d H'
 | .stuck=>False
structure bj (ρ:Ae) (H:Hp) (env:zc) (U:St):Prop where
 len:env.length=U.length
 at_:∀(i:Nat) x,env[i]?=some (some x)->∃v,U[i]?=some (some v)/\R K mg ρ H x v
def gV (Q:VK):List Addr->Hp->PV->ao->Prop:=fun ρ H x _=>∀v,R K mg ρ H x v->Q v H
def Kb (Q:List V->Hp->Prop):List Addr->Hp->List PV->ao->Prop:=fun ρ H x _=>∀v,Rs K mg ρ H x v->Q v H
def gB (Q:Bool->Hp->Prop):List Addr->Hp->Bool->ao->Prop:=λ_ H x _=>Q x H
inductive Fl where
 | nx (env:zc)|rt (x:PV)|bk (env:zc)|ct (env:zc)
abbrev Ag:=List (List Key)
abbrev Ah:=zc->Mo (List PV)
abbrev Ai:=zc->Mo PV
abbrev Aj:=zc->Mo Fl
abbrev Ak:=zc->Mo Bool
abbrev Al:=List PV->Mo PV
abbrev Am:=PV->PV->Mo PV
abbrev An:=List PV
def gS (D:Ends):List Addr->Hp->Fl->ao->Prop:=fun ρ H x _ =>
 match x with
 | .nx env=>∀U,bj K mg ρ H env U->D.nx U H
 | .rt x=>∀v,R K mg ρ H x v->D.rt v H
 | .bk env=>∀U,bj K mg ρ H env U->D.bk U H
 | .ct env=>∀U,bj K mg ρ H env U->D.ct U H
end
section
variable {K:Frag}{mg:Ab}{ρ ag am:Ae}{H H1 H2:Hp}
def Ext.refl:Ext ρ H ρ H:=⟨⟨[],by simp⟩,λ_ _ h _=>h⟩
def Ext.trans (a:Ext ρ H ag H1) (b:Ext ag H1 am H2):Ext ρ H am H2:=by
 obtain ⟨⟨d,hd⟩,i⟩:=a
 obtain ⟨⟨d',dH⟩,i'⟩:=b
 exact ⟨⟨d++d',by rw [dH,hd,List.append_assoc]⟩,λa o h m=>i' a o (i a o h m) m⟩
def Ext.get (a:Ext ρ H ag H1) {n:Nat}{p:Addr}(h:ρ[n]?=some p):ag[n]?=some p:=by
 obtain ⟨⟨d,hd⟩,_⟩:=a
 rw [hd,ik (yt.mp h).1]
 exact h
def Ext.sqT (e:Ext ρ H ag H1) {a:Addr}{xs:List V}(h:bg K H a xs):bg K H1 a xs:=by
 rcases h with (h|⟨o,h⟩)|h
 ·exact .inl (.inl (e.imm _ _ h rfl))
 ·exact .inl (.inr ⟨o,e.imm _ _ h rfl⟩)
 ·exact .inr h
def Ext.frl (e:Ext ρ H ag H1) {a:Addr}{xs:List V}(h:g9 K H a xs):g9 K H1 a xs:=by
 rcases h with ⟨o,h⟩|h
 ·exact .inl ⟨o,e.imm _ _ h rfl⟩
 ·exact .inr h
mutual
theorem R.ext (e:Ext ρ H ag H1):∀(x:PV) {v:V},R K mg ρ H x v->R K mg ag H1 x v
 | .non,_,h=>h
 | .bl _,_,h=>h
 | .int _,_,h=>h
 | .str _,_,h=>h
 | .ty _,_,h=>h
 | .tup xs,_,h=>by
  obtain ⟨a,vs,h1,h2,h3⟩:=h
  exact ⟨a,vs,h1,e.sqT h2,Rs.ext e xs h3⟩
 | .frl xs,_,h=>by
  obtain ⟨a,vs,h1,h2,h3⟩:=h
  exact ⟨a,vs,h1,e.frl h2,Rs.ext e xs h3⟩
 | .ref n,_,h=>by
  obtain ⟨a,h1,h2⟩:=h
  exact ⟨a,h1,e.get h2⟩
 | .fn _,_,h=>h
 | .kd ks xs,_,h=>by
  obtain ⟨a,us,vs,h1,h2,h4,h3⟩:=h
  exact ⟨a,us,vs,h1,h2,h4,Rs.ext e xs h3⟩
 | .exo c ks xs,_,h=>by
  obtain ⟨a,C,d,vs,h1,h2,h3,h4,h5,h6⟩:=h
  exact ⟨a,C,d,vs,h1,h2,e.imm _ _ h3 J_,e.imm _ _ h4 rfl,Rs.ext e xs h5,h6⟩
theorem Rs.ext (e:Ext ρ H ag H1):∀(xs:An) {vs:List V},Rs K mg ρ H xs vs->Rs K mg ag H1 xs vs
 | [],_,h=>h
 | x::xs,_,h=>by
  obtain ⟨v,r,h1,h2,h3⟩:=h
  exact ⟨v,r,h1,R.ext e x h2,Rs.ext e xs h3⟩
end
def bj.ext (e:Ext ρ H ag H1) {env:zc}{U:St}(h:bj K mg ρ H env U):bj K mg ag H1 env U :=
 ⟨h.len,λi x hx=>let ⟨v,a,b⟩:=h.at_ i x hx;⟨v,a,R.ext e x b⟩⟩
theorem Rs.len:∀{xs:An}{vs:List V},Rs K mg ρ H xs vs->xs.length=vs.length
 | [],_,h=>by cases h;rfl
 | x::xs,_,h=>by
  obtain ⟨v,r,rfl,_,h3⟩:=h
  simp [Rs.len h3]
theorem Rs.get:∀{xs:An}{vs:List V}{i:Nat}{x:PV},Rs K mg ρ H xs vs->xs[i]?=some x->∃v,vs[i]?=some v/\R K mg ρ H x v
 | [],_,_,_,_,e=>by simp at e
 | x::xs,_,0,_,h,e=>by
  obtain ⟨v,r,rfl,h2,h3⟩:=h
  simp at e
  subst e
  exact ⟨v,by simp,h2⟩
 | x::xs,_,i+1,y,h,e=>by
  obtain ⟨v,r,rfl,h2,h3⟩:=h
  simp at e
  obtain ⟨v',h4,h5⟩:=Rs.get h3 e
  exact ⟨v',by simpa using h4,h5⟩
theorem Rs.append:∀{xs ys:An}{vs ws:List V},Rs K mg ρ H xs vs->Rs K mg ρ H ys ws->Rs K mg ρ H (xs++ys) (vs++ws)
 | [],_,_,_,h,h'=>by cases h;exact h'
 | x::xs,_,_,_,h,h'=>by
  obtain ⟨v,r,rfl,h2,h3⟩:=h
  exact ⟨v,r++_,rfl,h2,Rs.append h3 h'⟩
theorem Rs.take:∀{xs:An}{vs:List V}(n:Nat),Rs K mg ρ H xs vs->Rs K mg ρ H (xs.take n) (vs.take n)
 | [],_,n,h=>by cases h;simp [Rs]
 | x::xs,_,0,h=>by simp [Rs]
 | x::xs,_,n+1,h=>by
  obtain ⟨v,r,rfl,h2,h3⟩:=h
  exact ⟨v,_,rfl,h2,Rs.take n h3⟩
theorem Rs.drop:∀{xs:An}{vs:List V}(n:Nat),Rs K mg ρ H xs vs->Rs K mg ρ H (xs.drop n) (vs.drop n)
 | [],_,n,h=>by cases h;simp [Rs]
 | x::xs,_,0,h=>h
 | x::xs,_,n+1,h=>by
  obtain ⟨v,r,rfl,h2,h3⟩:=h
  exact Rs.drop n h3
def bj.set {env:zc}{U:St}{x:PV}{v:V}(h:bj K mg ρ H env U) (i:Nat) (r:R K mg ρ H x v):bj K mg ρ H (env.set i (some x)) (U.set i (some v)):=by
 refine ⟨by simp [h.len],λj y hy=>?_⟩
 rw [List.getElem?_set] at hy ⊢
 by_cases dM:i=j
 ·subst dM
  by_cases hl:i<env.length
  ·rw [zu rfl,zu hl] at hy
   rw [zu rfl,zu (by rw [<-h.len];exact hl)]
   cases hy
   exact ⟨v,rfl,r⟩
  ·rw [zu rfl,zF hl] at hy
   cases hy
 ·rw [zF dM] at hy ⊢
  exact h.at_ j y hy
def bj.unset {env:zc}{U:St}(h:bj K mg ρ H env U) (i:Nat):bj K mg ρ H (env.set i none) (U.set i none):=by
 refine ⟨by simp [h.len],λj y hy=>?_⟩
 rw [List.getElem?_set] at hy ⊢
 by_cases dM:i=j
 ·subst dM
  by_cases hl:i<env.length
  ·rw [zu rfl,zu hl] at hy
   cases hy
  ·rw [zu rfl,zF hl] at hy
   cases hy
 ·rw [zF dM] at hy ⊢
  exact h.at_ j y hy
def bj.cons {env:zc}{U:St}{x:PV}{v:V}(h:bj K mg ρ H env U) (r:R K mg ρ H x v):bj K mg ρ H (some x::env) (some v::U):=by
 refine ⟨by simp [h.len],λj y hy=>?_⟩
 cases j with
 | zero=>simp at hy;subst hy;exact ⟨v,by simp,r⟩
 | succ j=>simp at hy;simpa using h.at_ j y hy
def bf.addr {st:ao}{n:Nat}{so:SO}(s:bf K mg ρ H st) (e:st[n]?=some so) {a:Addr}(ha:ρ[n]?=some a):gI K mg ρ H so a:=by
 obtain ⟨b,hb,h⟩:=s.at_ n so e
 rw [ha] at hb
 cases hb
 exact h
def gI.some {so:SO}{a:Addr}(h:gI K mg ρ H so a):∃o,H a=some o/\True:=by
 cases so with
 | lst xs=>obtain ⟨vs,h,_⟩:=h;exact ⟨_,h,trivial⟩
 | dic ks xs=>obtain ⟨vs,h,_⟩:=h;exact ⟨_,h,trivial⟩
 | ins c ks xs=>obtain ⟨C,dx,vs,_,h,_⟩:=h;exact ⟨_,h,trivial⟩
 | fdi ks xs=>obtain ⟨o,vs,h,_⟩:=h;exact ⟨_,h,trivial⟩
 | dit ks xs=>obtain ⟨its,vs,h,_⟩:=h;exact ⟨_,h,trivial⟩
def bf.in_ {st:ao}{n:Nat}{a:Addr}(s:bf K mg ρ H st) (h:ρ[n]?=some a):∃so,st[n]?=some so/\gI K mg ρ H so a:=by
 have hl:n<st.length:=by rw [<-s.len];exact (yt.mp h).1
 refine ⟨st[n],by simp [hl],s.addr (by simp [hl]) h⟩
def gI.ext' {so:SO}{a:Addr}(e:Ext ρ H ag H1) (h:gI K mg ρ H so a) (k:H1 a=H a):gI K mg ag H1 so a:=by
 cases so with
 | lst xs=>obtain ⟨vs,h1,h2⟩:=h;exact ⟨vs,by rw [k];exact h1,Rs.ext e xs h2⟩
 | dic ks xs=>obtain ⟨vs,h1,h2,h3⟩:=h;exact ⟨vs,by rw [k];exact h1,Rs.ext e xs h2,h3⟩
 | ins c ks xs=>obtain ⟨C,dx,vs,h0,h1,h2,h3⟩:=h;exact ⟨C,dx,vs,h0,by rw [k];exact h1,Rs.ext e xs h2,h3⟩
 | fdi ks xs=>obtain ⟨o,vs,h1,h2,h3⟩:=h;exact ⟨o,vs,by rw [k];exact h1,Rs.ext e xs h2,h3⟩
 | dit ks xs=>obtain ⟨its,vs,h1,h2,h3,h4,h5⟩:=h;exact ⟨its,vs,by rw [k];exact h1,h2,λx hx=>e.sqT (h3 x hx),h4,Rs.ext e xs h5⟩
def Ext.new {p:Addr}{o:HO}(hp:H p=none):Ext ρ H ρ (upd H p o) :=
 ⟨⟨[],by simp⟩,λa o' h _=>by rw [zW (wA h hp)];exact h⟩
def bf.new {st:ao}{p:Addr}{o:HO}(s:bf K mg ρ H st) (hp:H p=none):bf K mg ρ (upd H p o) st :=
 ⟨s.len,s.nd,λn so e=>by
  obtain ⟨a,ha,h⟩:=s.at_ n so e
  obtain ⟨o',ho,_⟩:=h.some
  exact ⟨a,ha,h.ext' (Ext.new hp) (zW (wA ho hp))⟩⟩
def Ext.push {p:Addr}{o:HO}(hp:H p=none):Ext ρ H (ρ++[p]) (upd H p o) :=
 ⟨⟨[p],rfl⟩,λa o' h _=>by rw [zW (wA h hp)];exact h⟩
theorem bf.push {st:ao}{p:Addr}{o:HO}{so:SO}(s:bf K mg ρ H st) (hp:H p=none) (n:gI K mg (ρ++[p]) (upd H p o) so p):bf K mg (ρ++[p]) (upd H p o) (st++[so]):=by
 refine ⟨by simp [s.len],?_,λi qq e=>?_⟩
 ·refine List.nodup_append.mpr ⟨s.nd,by simp,λa ha b hb=>?_⟩
  obtain rfl:b=p:=by simpa using hb
  obtain ⟨n,hn⟩:=List.getElem?_of_mem ha
  obtain ⟨qq,_,h⟩:=s.in_ hn
  obtain ⟨o',ho,_⟩:=h.some
  exact wA ho hp
 ·by_cases hi:i<st.length
  ·rw [ik hi] at e
   obtain ⟨a,ha,h⟩:=s.at_ i qq e
   obtain ⟨o',ho,_⟩:=h.some
   exact ⟨a,(Ext.push (o:=o) hp).get ha,h.ext' (Ext.push hp) (zW (wA ho hp))⟩
  ·rw [kf (by omega)] at e
   have uf:i=st.length:=by
    have:=(yt.mp e).1
    simp at this
    omega
   subst uf
   simp at e
   subst e
   exact ⟨p,by rw [<-s.len];simp,n⟩
def Ext.write {a:Addr}{o o':HO}(ha:H a=some o) (hi:qp o=false):Ext ρ H ρ (upd H a o') :=
 ⟨⟨[],by simp⟩,λb u h m=>by
  rw [zW]
  ·exact h
  ·intro z;subst z;rw [ha] at h;cases h;rw [hi] at m;cases m⟩
def bf.write {st:ao}{n:Nat}{a:Addr}{o':HO}{so:SO}(s:bf K mg ρ H st) (hn:ρ[n]?=some a) (ew:Ext ρ H ρ (upd H a o')) (h:gI K mg ρ (upd H a o') so a):bf K mg ρ (upd H a o') (st.set n so):=by
 refine ⟨by simp [s.len],s.nd,λi qq e=>?_⟩
 rw [List.getElem?_set] at e
 by_cases dM:n=i
 ·subst dM
  rw [zu rfl] at e
  split at e
  ·cases e;exact ⟨a,hn,h⟩
  ·cases e
 ·rw [zF dM] at e
  obtain ⟨b,hb,q⟩:=s.at_ i qq e
  have ne:b≠a:=by
   intro z
   subst z
   obtain ⟨h1,h2⟩:=yt.mp hn
   obtain ⟨h3,h4⟩:=yt.mp hb
   have pw:=List.pairwise_iff_getElem.mp s.nd
   rcases Nat.lt_trichotomy n i with c|c|c
   ·exact pw n i h1 h3 c (h2.trans h4.symm)
   ·exact dM c
   ·exact pw i n h3 h1 c (h4.trans h2.symm)
  exact ⟨b,hb,q.ext' ew (zW ne)⟩
section
variable {α β:Type}{E:XK}{good:List Addr->Hp->α->ao->Prop}
def Out.ext {r:Res α}(h:Out K mg ρ H r good E) (e:Ext ρ H ag H1):Out K mg ag H1 r good E:=by
 cases r with
 | ok x st=>exact λaj H' e' s=>h aj H' (e.trans e') s
 | err c ks xs st=>exact λaj H' C d e' s x=>h aj H' C d (e.trans e') s x
 | stuck=>exact h
def Out.mono {r:Res α}{dU:List Addr->Hp->α->ao->Prop}(h:Out K mg ρ H r good E) (g:∀aj H' x st,Ext ρ H aj H'->bf K mg aj H' st->good aj H' x st->dU aj H' x st):Out K mg ρ H r dU E:=by
 cases r with
 | ok x st=>exact λaj H' e' s=>g aj H' x st e' s (h aj H' e' s)
 | err c ks xs st=>exact h
 | stuck=>exact h
def Out.bind {r:Res β}{f:β->Mo α}(h:Out K mg ρ H (r.bind f) good E):Out K mg ρ H r (λaj H' x st=>Out K mg aj H' (f x st) good E) E:=by
 cases r with
 | ok x st=>exact λaj H' e' s=>Out.ext h e'
 | err c ks xs st=>exact h
 | stuck=>exact h
def Out.then {r:Res β}{f:β->Mo α}{dU:List Addr->Hp->β->ao->Prop}(h:Out K mg ρ H (r.bind f) good E) (g:∀aj H' x st,Ext ρ H aj H'->bf K mg aj H' st->Out K mg aj H' (f x st) good E->dU aj H' x st):Out K mg ρ H r dU E:=h.bind.mono g
def Out.now {x:α}{st:ao}(h:Out K mg ρ H (.ok x st) good E) (s:bf K mg ρ H st):good ρ H x st:=h ρ H Ext.refl s
end
end
end Mi
namespace Mi
open PySem L2 PySem.W PySem.Spec
abbrev lim:Nat:=1000000
def yZ {n:Nat}(h:n<=lim):n<=sizeLine:=by rw [sizeLine_eq];show n<=16777216;exact y6 h (by decide)
section
variable (K:Frag) (mg:Ab)
def tM (Er:XK) (f:Ai):TE:=λU H Q=>∃env st ρ,bj K mg ρ H env U/\bf K mg ρ H st/\Out K mg ρ H (f env st) (gV K mg Q) Er
def mv (Er:XK) (f:Ak):TT:=λU H Q=>∃env st ρ,bj K mg ρ H env U/\bf K mg ρ H st/\Out K mg ρ H (f env st) (gB Q) Er
def Kc (Er:XK) (f:Ah):TA:=λU H Q=>∃env st ρ,bj K mg ρ H env U/\bf K mg ρ H st/\Out K mg ρ H (f env st) (Kb K mg Q) Er
def sM (Er:XK) (f:Aj):TS:=λD U H=>∃env st ρ,bj K mg ρ H env U/\bf K mg ρ H st/\Out K mg ρ H (f env st) (gS K mg D) Er
end
def ME (X:Cx) (Er:XK) (e:Expr) (f:Ai):Prop:=PE X e (tM X.K X.mg Er f)
def MT (X:Cx) (Er:XK) (e:Expr) (f:Ak):Prop:=PT X e (mv X.K X.mg Er f)
def MW (X:Cx) (Er:XK) (e:Expr) (f:Ak):Prop:=PW X e (mv X.K X.mg Er f)
def MA (X:Cx) (Er:XK) (e:List Expr) (f:Ah):Prop:=PA X e (Kc X.K X.mg Er f)
def MS (X:Cx) (Er:XK) (e:Stmt) (f:Aj):Prop:=PS X e (sM X.K X.mg Er f)
def dW (X:Cx) (Er:XK) (e:List Stmt) (f:Aj):Prop:=bY X e (sM X.K X.mg Er f)
section
variable {X:Cx}{Er:XK}{e a b c:Expr}{es:List Expr}{pos:Pos}{t t':TE}
def PE.weak (h:PE X e t) (w:∀U H Q,t' U H Q->t U H Q):PE X e t':=λpins s U H Q I q=>h pins s U H Q I (w U H Q q)
def PT.weak {t t':TT}(h:PT X e t) (w:∀U H Q,t' U H Q->t U H Q):PT X e t':=λpins s U H Q I q=>h pins s U H Q I (w U H Q q)
def PW.weak {t t':TT}(h:PW X e t) (w:∀U H Q,t' U H Q->t U H Q):PW X e t':=λwh pins s U H Q I q=>h wh pins s U H Q I (w U H Q q)
def PA.weak {t t':TA}(h:PA X es t) (w:∀U H Q,t' U H Q->t U H Q):PA X es t':=λpos pins s U H Q I q=>h pos pins s U H Q I (w U H Q q)
def PS.weak {st:Stmt}{t t':TS}(h:PS X st t) (w:∀D U H,t' D U H->t D U H):PS X st t':=λpins s U H D I q=>h pins s U H D I (w D U H q)
def bY.weak {st:List Stmt}{t t':TS}(h:bY X st t) (w:∀D U H,t' D U H->t D U H):bY X st t':=λpins s U H D I q=>h pins s U H D I (w D U H q)
def zd (i:Nat):Ai:=λenv st=>match env[i]? with
 | some (some x)=>.ok x st
 | _=>.stuck
def mC (x:PV):Ai:=λ_ st=>.ok x st
def zf (i:Nat) {x:Str} {pos:Pos} (hN:X.N[i]?=some x:=by rfl) (hv:nj X.env.scope x:=by first|exact Or.inl rfl|exact Or.inr (Or.inl rfl)|exact Or.inr (Or.inr rfl)) (hd:(x==("__debug__" : Str))=false:=by decide)
  (eO:(x==("__classdict__" : Str))=false:=by decide):ME X Er (.Name x pos) (zd i):=PE.weak (xM hN hv hd eO) λU H Q ⟨env,st,ρ,re,rs,h⟩=>by
 unfold zd at h
 split at h
 ·rename_i x' hx
  obtain ⟨v,h1,h2⟩:=re.at_ i x' hx
  exact ⟨v,h1,h.now rs v h2⟩
 ·exact h.elim
def mw {x:PV}{v:V}(hp:PE X e (tC v)) (hr:∀ρ H,R X.K X.mg ρ H x v):ME X Er e (mC x):=PE.weak hp λU H Q ⟨env,st,ρ,re,rs,h⟩=>h.now rs v (hr ρ H)
def zo {i:Int}{j}:ME X Er (.Constant (.int i) j pos) (mC (.int i)):=mw F8 λ_ _=>rfl
def zM {x:Str}{j}:ME X Er (.Constant (.str x) j pos) (mC (.str x)):=mw Ga λ_ _=>rfl
def zaF {b:Bool}{j}:ME X Er (.Constant (.bool b) j pos) (mC (.bl b)):=mw F9 λ_ _=>rfl
def jE {j}:ME X Er (.Constant .none j pos) (mC .non):=mw F_ λ_ _=>rfl
def Kd {x:Str} {p:PV} {v:V} {u:Value} (hm:X.mg x=some u) (r:RelV v u) (hr:∀ρ H,R X.K X.mg ρ H p v) (hg:Gl X x:=by rfl) (hd:(x==("__debug__" : Str))=false:=by decide):ME X Er (.Name x pos) (mC p):=mw (sv hg hm r hd) hr
def dh (K:Frag) (mg:Ab) (r:R2) (op:Am):Prop:=∀ρ H st x y v w (Q:VK) (E:XK),bf K mg ρ H st->R K mg ρ H x v->R K mg ρ H y w->Out K mg ρ H (op x y st) (gV K mg Q) E->r v w H Q
def zh (op:Am) (fa fb:Ai):Ai:=λenv st=>(fa env st).bind λx ae=>(fb env ae).bind λy av=>op x y av
variable {fa fb fc:Ai}
def qr {r:R2}{op:Am}{K:Frag}{mg:Ab}(hm:dh K mg r op) {U:St}{H:Hp}{Q:VK}(h:tM K mg Er (zh op fa fb) U H Q):nF r (tM K mg Er fa) (tM K mg Er fb) U H Q:=by
 obtain ⟨env,st,ρ,re,rs,h⟩:=h
 exact ⟨env,st,ρ,re,rs,h.then λag H1 x ae e1 s1 h1 v rv=>⟨env,ae,ag,re.ext e1,s1,h1.then λam H2 y av e2 s2 h2 w rw=>hm am H2 av x y v w Q Er s2 (R.ext e2 x rv) rw h2⟩⟩
def Ke {o:Operator}{r:R2}{op:Am}(ho:ba X (binaryOp o) r) (hm:dh X.K X.mg r op) (ha:ME X Er a fa) (hb:ME X Er b fb):ME X Er (.BinOp a o b pos) (zh op fa fb) :=
 PE.weak (G7 ho ha hb) λU H Q h=>qr hm h
def Kf {o:CmpOp}{r:R2}{op:Am}(ho:ba X (compareOp o) r) (hm:dh X.K X.mg r op) (ha:ME X Er a fa) (hb:ME X Er b fb) (hk:behindInMarks o b=false):ME X Er (.Compare a [o] [b] pos) (zh op fa fb) :=
 PE.weak (Hq ho ha hb hk) λU H Q h=>qr hm h
def g_:PV->Mo Bool
 | .bl b,st=>.ok b st
 | _,_=>.stuck
def mB (f:Ai):Ak:=λenv st=>(f env st).bind g_
def Kg {K:Frag}{mg:Ab}{ρ:Ae}{H:Hp}{x:PV}{st:ao}{Q:Bool->Hp->Prop}(s:bf K mg ρ H st) (h:Out K mg ρ H (g_ x st) (gB Q) Er) {v:V}(r:R K mg ρ H x v):∃k,v=.bl k/\Q k H:=by
 unfold g_ at h
 split at h
 ·cases r;exact ⟨_,rfl,h.now s⟩
 ·exact h.elim
def BA {α:Type}{K:Frag}{mg:Ab}{ρ:Ae}{H:Hp}{x:PV}{st:ao}{f:Bool->Mo α}{good:List Addr->Hp->α->ao->Prop}(h:Out K mg ρ H ((g_ x st).bind f) good Er):∃k,x=.bl k/\Out K mg ρ H (f k st) good Er:=by
 cases x with
 | bl k=>exact ⟨k,rfl,h⟩
 | _=>exact h.elim
def qt {f:Ai}{K:Frag}{mg:Ab}{U:St}{H:Hp}{Q:Bool->Hp->Prop}(h:mv K mg Er (mB f) U H Q):tM K mg Er f U H λx H1=>∃c,x=.bl c/\Q c H1:=by
 obtain ⟨env,st,ρ,re,rs,h⟩:=h
 exact ⟨env,st,ρ,re,rs,h.then λag H1 x ae e1 s1 h1 v rv=>Kg s1 h1 rv⟩
def Kh {o:CmpOp}{r:R2}{op:Am}(ho:ba X (compareOp o) r) (hm:dh X.K X.mg r op) (ha:ME X Er a fa) (hb:ME X Er b fb) (hk:behindInMarks o b=false):MT X Er (.Compare a [o] [b] pos) (mB (zh op fa fb)) :=
 PT.weak (xS ho ha hb hk) λU H Q h=>qr hm (qt h)
def jx (h:ME X Er e fa) (he:∀whole,isTrue e X.env whole=(do let v <-whole;standAt e.pos;holding [v] (truthy v)):=by intro _;rfl):MT X Er e (mB fa) :=
 PT.weak (Gd h he) λU H Q h=>qt h
def kO (op cv:Am) (fa fb fc:Ai):Ai:=λenv st=>(fa env st).bind λx ae=>(fb env ae).bind λy av=>(op x y av).bind λk a_=>(g_ k a_).bind λb dN =>
 if b=true then (fc env dN).bind λz dq=>cv y z dq else .ok (.bl false) dN
def BB {r r':R2}{op cv:Am}{K:Frag}{mg:Ab}(hm:dh K mg r op) (hm':dh K mg r' cv) {U:St}{H:Hp}{Q:VK}(h:tM K mg Er (kO op cv fa fb fc) U H Q):sG r r' (tM K mg Er fa) (tM K mg Er fb) (tM K mg Er fc) U H Q:=by
 obtain ⟨env,st,ρ,re,rs,h⟩:=h
 refine ⟨env,st,ρ,re,rs,h.then λag H1 x ae e1 s1 h1 v rv=>⟨env,ae,ag,re.ext e1,s1,h1.then λam H2 y av e2 s2 h2 w rw=>?_⟩⟩
 refine hm am H2 av x y v w _ Er s2 (R.ext e2 x rv) rw (h2.then λal H3 z a_ e3 s3 h3 u ru=>?_)
 obtain ⟨b,rfl,h4⟩:=BA h3
 cases ru
 refine ⟨b,rfl,?_⟩
 cases b with
 | true=>exact ⟨env,a_,al,((re.ext e1).ext e2).ext e3,s3,Out.then (f:=λz dq=>cv y z dq) h4 λaK H5 z dq e5 s5 h5 w' c9=>hm' aK H5 dq y z w w' Q Er s5 (R.ext e5 y (R.ext e3 y rw)) c9 h5⟩
 | false=>exact Out.now (x:=PV.bl false) h4 s3 _ rfl
def Ki {o o':CmpOp}{r r':R2}{op cv:Am}(ho:ba X (compareOp o) r) (hm:dh X.K X.mg r op) (ho':ba X (compareOp o') r') (hm':dh X.K X.mg r' cv) (ha:ME X Er a fa) (hb:ME X Er b fb) (hc:ME X Er c fc)
  (hk:lastMarks [o,o'] [b,c]=false:=by with_unfolding_all rfl):ME X Er (.Compare a [o,o'] [b,c] pos) (kO op cv fa fb fc):=PE.weak (Hr ho ho' ha hb hc hk) λU H Q h=>BB hm hm' h
def Kj {o o':CmpOp}{r r':R2}{op cv:Am}(ho:ba X (compareOp o) r) (hm:dh X.K X.mg r op) (ho':ba X (compareOp o') r') (hm':dh X.K X.mg r' cv) (ha:ME X Er a fa) (hb:ME X Er b fb) (hc:ME X Er c fc)
  (hk:lastMarks [o,o'] [b,c]=false:=by with_unfolding_all rfl):MT X Er (.Compare a [o,o'] [b,c] pos) (mB (kO op cv fa fb fc)):=PT.weak (Hs ho ho' ha hb hc hk) λU H Q h=>BB hm hm' (qt h)
def BC (K:Frag) (mg:Ab) (r:V->Hp->VK->Prop) (op:PV->Mo PV):Prop:=∀ρ H st x v (Q:VK) (E:XK),bf K mg ρ H st->R K mg ρ H x v->Out K mg ρ H (op x st) (gV K mg Q) E->r v H Q
def zX (op:PV->Mo PV) (fa:Ai):Ai:=λenv st=>(fa env st).bind op
def Kk {o:UnaryOp}{r:V->Hp->VK->Prop}{op:PV->Mo PV}(ho:nE X (unaryOp o) r) (hm:BC X.K X.mg r op) (ha:ME X Er a fa):ME X Er (.UnaryOp o a pos) (zX op fa) :=
 PE.weak (G8 ho ha) λU H Q ⟨env,st,ρ,re,rs,h⟩=>⟨env,st,ρ,re,rs,h.then λag H1 x ae e1 s1 h1 v rv=>hm ag H1 ae x v Q Er s1 rv h1⟩
variable {ga gb:Ak}{rest:List Expr}
def kP (ga gb:Ak):Ak:=λenv st=>(ga env st).bind λc ae=>if c=true then gb env ae else .ok false ae
def mx (ga gb:Ak):Ak:=λenv st=>(ga env st).bind λc ae=>if c=true then .ok true ae else gb env ae
def iJ (ga:Ak):Ak:=λenv st=>(ga env st).bind λc ae=>.ok (!c) ae
def zcI (ha:MT X Er a ga):MW X Er (.BoolOp .And [a] pos) ga:=Gh ha
def zil (ha:MT X Er a ga):MW X Er (.BoolOp .Or [a] pos) ga:=Gi ha
def zbN (ha:MT X Er a ga) (hb:MW X Er (.BoolOp .And (b::rest) pos) gb):MW X Er (.BoolOp .And (a::b::rest) pos) (kP ga gb) :=
 PW.weak (Gj ha hb) λU H Q ⟨env,st,ρ,re,rs,h⟩=>⟨env,st,ρ,re,rs,h.then λag H1 k ae e1 s1 h1=>by
  cases k with
  | true=>exact ⟨env,ae,ag,re.ext e1,s1,h1⟩
  | false=>exact h1.now s1⟩
def zen (ha:MT X Er a ga) (hb:MW X Er (.BoolOp .Or (b::rest) pos) gb):MW X Er (.BoolOp .Or (a::b::rest) pos) (mx ga gb) :=
 PW.weak (Gk ha hb) λU H Q ⟨env,st,ρ,re,rs,h⟩=>⟨env,st,ρ,re,rs,h.then λag H1 k ae e1 s1 h1=>by
  cases k with
  | false=>exact ⟨env,ae,ag,re.ext e1,s1,h1⟩
  | true=>exact h1.now s1⟩
def za8 {op:BoolOp}(h:MW X Er (.BoolOp op es pos) ga):MT X Er (.BoolOp op es pos) ga:=PW.pt h
def zcJ (ha:MT X Er a ga):MT X Er (.UnaryOp .Not a pos) (iJ ga):=PT.weak (Gm ha) λU H Q ⟨env,st,ρ,re,rs,h⟩=>⟨env,st,ρ,re,rs,h.then λag H1 k ae e1 s1 h1=>h1.now s1⟩
def my (fa fb:Ai):Ai:=λenv st=>(fa env st).bind λx ae=>(g_ x ae).bind λc av=>if c=true then fb env av else .ok (.bl false) av
def zeo {op}(h:ME X Er a fa):ME X Er (.BoolOp op [a] pos) fa:=Gp h
def zep (ha:ME X Er a fa) (hb:ME X Er (.BoolOp .And (b::rest) pos) fb):ME X Er (.BoolOp .And (a::b::rest) pos) (my fa fb) :=
 PE.weak (Gq ha hb) λU H Q ⟨env,st,ρ,re,rs,h⟩=>⟨env,st,ρ,re,rs,h.then λag H1 x ae e1 s1 h1 v rv=>by
  obtain ⟨k,rfl,h1⟩:=BA h1
  cases rv
  refine ⟨k,rfl,?_⟩
  cases k with
  | true=>exact ⟨env,ae,ag,re.ext e1,s1,h1⟩
  | false=>exact Out.now (x:=PV.bl false) h1 s1 _ rfl⟩
def BD (g:Ak) (fa fb:Ai):Ai:=λenv st=>(g env st).bind λc ae=>if c=true then fa env ae else fb env ae
def zpe {c:Expr}(hc:MT X Er c ga) (ha:ME X Er a fa) (hb:ME X Er b fb):ME X Er (.IfExp c a b pos) (BD ga fa fb) :=
 PE.weak (Gs hc ha hb) λU H Q ⟨env,st,ρ,re,rs,h⟩=>⟨env,st,ρ,re,rs,h.then λag H1 k ae e1 s1 h1=>by
  cases k with
  | true=>exact ⟨env,ae,ag,re.ext e1,s1,h1⟩
  | false=>exact ⟨env,ae,ag,re.ext e1,s1,h1⟩⟩
def zj:Ah:=λ_ st=>.ok [] st
def ze (f:Ai) (fs:Ah):Ah:=λenv st=>(f env st).bind λx ae=>(fs env ae).bind λxs av=>.ok (x::xs) av
variable {fs:Ah}
def zl:MA X Er [] zj:=PA.weak p5 λU H Q ⟨env,st,ρ,re,rs,h⟩=>h.now rs [] rfl
def BE (ha:ME X Er e fa) (hr:MA X Er es fs) (hs:starEach (e::es) X.env=(false,eval e X.env)::starEach es X.env:=by rfl):MA X Er (e::es) (ze fa fs) :=
 PA.weak (p6 ha hr hs) λU H Q ⟨env,st,ρ,re,rs,h⟩=>⟨env,st,ρ,re,rs,h.then λag H1 x ae e1 s1 h1 v rv=>⟨env,ae,ag,re.ext e1,s1,h1.then λam H2 xs av e2 s2 h2 vs cL =>
  h2.now s2 (v::vs) ⟨v,vs,rfl,R.ext e2 x rv,cL⟩⟩⟩
def zG (fs:Ah):Ai:=λenv st=>(fs env st).bind λxs ae=>if xs.length<=lim then .ok (.tup xs) ae else .stuck
def jF (fs:Ah):Ai:=λenv st=>(fs env st).bind λxs ae=>if xs.length<=lim then .ok (.ref ae.length) (ae++[.lst xs]) else .stuck
def R.tup_of {K:Frag}{mg:Ab}{ρ:Ae}{H:Hp}{xs:An}{vs:List V}{p:Addr}(r:Rs K mg ρ H xs vs) (hp:H p=none):R K mg ρ (upd H p (.tup vs)) (.tup xs) (.ref p) :=
 ⟨p,vs,rfl,bg.of yx,Rs.ext (Ext.new hp) xs r⟩
def zN {x1}(h:MA X Er es fs):ME X Er (.Tuple es x1 pos) (zG fs) :=
 PE.weak (HM h) λU H Q ⟨env,st,ρ,re,rs,h⟩=>⟨env,st,ρ,re,rs,h.then λag H1 xs ae e1 s1 h1 vs rv=>by
  split at h1
  ·rename_i hl
   exact ⟨by rw [<-rv.len];exact yZ hl,λp hp=>h1 ag _ (Ext.new hp) (s1.new hp) _ (R.tup_of rv hp)⟩
  ·exact h1.elim⟩
def Out.newList {K:Frag}{mg:Ab}{ρ:Ae}{H:Hp}{st:ao}{xs:An}{vs:List V}{p:Addr}{Q:VK}(h:Out K mg ρ H (.ok (.ref st.length) (st++[.lst xs])) (gV K mg Q) Er) (s:bf K mg ρ H st) (r:Rs K mg ρ H xs vs) (hp:H p=none):Q (.ref p) (upd H p (.lst vs)) :=
 h (ρ++[p]) _ (Ext.push hp) (s.push hp ⟨vs,yx,Rs.ext (Ext.push hp) xs r⟩) _ ⟨p,rfl,by rw [<-s.len];simp⟩
def j1 (h:MA X Er es fs):ME X Er (.List es pos) (jF fs) :=
 PE.weak (HN h) λU H Q ⟨env,st,ρ,re,rs,h⟩=>⟨env,st,ρ,re,rs,h.then λag H1 xs ae e1 s1 h1 vs rv=>by
  split at h1
  ·rename_i hl
   exact ⟨by rw [<-rv.len];exact yZ hl,λp hp=>Out.newList h1 s1 rv hp⟩
  ·exact h1.elim⟩
def Kl {r:R2}{op:Am}(ho:eV X r) (hm:dh X.K X.mg r op) (ha:ME X Er a fa) (hb:ME X Er b fb) (hs:eU b:=by exact λ_ _=>rfl):ME X Er (.Subscript a b pos) (zh op fa fb) :=
 PE.weak (AE ho ha hb hs) λU H Q h=>qr hm h
end
end Mi
namespace HT
open PySem PySem.Spec PyProof.Rows
section
variable {prog:Program}{w:World}{A:Around}{E:Aa}{s:Shared}
def getItem_tuple_all {t sl:Addr}{items:Array Value}{vl vu:Value}{lo hi:Option Int}{Q:Aa}(ht:IsTup s.heap t items) (hs:s.heap.IsSliceOf sl vl vu .none) (pl:IsPart vl lo) (pu:IsPart vu hi)
  (hw:sIx items.size 0 lo=0/\sIx items.size items.size hi=items.size) (h:Q (.ref t) s)
  (hsz:items.size<=sizeLine):wpAny (model prog w) A (getItem (.ref t) (.ref sl)) Q E s:=by
 obtain ⟨os,kj,p8,nI⟩:=id hs
 have sQ:s.TypeIs (.ref sl) "slice" := ⟨os,kj,p8⟩
 unfold getItem
 try with_reducible refine jN ?_
 first|refine zp (zK ?_)|skip
 refine zp (wpAny_sequenceKey ht.typeIs (by decide) ?_)
 refine zp (wpAny_callSpecial?_slot (name:=Str.ofString "__getitem__") ht.typeIs PyProof.Rows.slot_tuple_getitem
  (jX PyProof.Rows.slot_tuple_getitem ht.typeIs entry_tuple_getitem ?_ (args_tuple_getitem _ _)))
 show wpAny _ _ (Builtin.Tuple.tupleItemsOf (.ref t) >>= _) _ _ s
 refine zp (tupleItemsOf_ ht ?_)
 refine zp (wpAny_typeOf sQ ?_)
 rw [zu (by decide)]
 refine zp (AA hs pl pu ?_)
 have BF:(((sIx items.size 0 lo:Nat):Int)==0&&(1:Int)==1&&(sIx items.size items.size hi-sIx items.size 0 lo)==items.size)=true:=by
  rw [hw.1,hw.2];simp
 show wpAny _ _ (if (((sIx items.size 0 lo:Nat):Int)==0&&(1:Int)==1&&(sIx items.size items.size hi-sIx items.size 0 lo)==items.size)=true then _ else _) _ _ s
 rw [zu BF]
 unfold Builtin.Tuple.tupleIsExact
 refine zp (zp (wpAny_typeOf ht.typeIs (zK ?_)))
 rw [zu (by decide)]
 exact zp (wpAny_rule (zK ⟨_,rfl,zK h⟩))
def cat_tup0 {t b:Addr}{ws:Af}{Q:Aa}(ht:IsTup s.heap t #[]) (hb:IsTup s.heap b ws.toArray) (h1:Q (.ref b) s):wpAny (model prog w) A (binaryOp .Add (.ref t) (.ref b)) Q E s:=by
 obtain ⟨⟨cls,dd,data,sl⟩,ho,hc,n,hd⟩:=id ht
 obtain ⟨⟨rV,ki,data2,fD⟩,ho2,f_,n2,hd2⟩:=id hb
 simp only at hc hd f_ hd2
 subst hc hd f_ hd2
 exact concat_meets ⟨_,ho,rfl⟩ ⟨_,ho2,rfl⟩ noFill_tuple_add seq_tuple_add PySem.F.slot_tuple_add PySem.F.entry_tuple_add (PySem.F.args_tuple_add_2 _ _)
   (tuple_addW0 t b #[] ws.toArray n n2 dd ki sl fD (by simp)) ⟨ho,ho2,h1⟩
end
end HT
namespace Mi
open PySem L2 PySem.W PySem.Spec
section
variable {X:Cx}{Er:XK}{K:Frag}{mg:Ab}
def cE (X:Cx) (o:Operator) (op:Am):Prop:=∃r,ba X (binaryOp o) r/\dh X.K X.mg r op
def bD (X:Cx) (o:CmpOp) (op:Am):Prop:=∃r,ba X (compareOp o) r/\dh X.K X.mg r op
def iK (X:Cx) (op:Am):Prop:=∃r,eV X r/\dh X.K X.mg r op
def rY (X:Cx) (o:UnaryOp) (op:PV->Mo PV):Prop:=∃r,nE X (unaryOp o) r/\BC X.K X.mg r op
variable {a b c e:Expr}{es:List Expr}{pos:Pos}{fa fb fc:Ai}{fs:Ah}
def ya {o:Operator}{op:Am}(h:cE X o op) (ha:ME X Er a fa) (hb:ME X Er b fb):ME X Er (.BinOp a o b pos) (zh op fa fb):=let ⟨_,h1,h2⟩:=h;Ke h1 h2 ha hb
def j2 {o:CmpOp}{op:Am}(h:bD X o op) (ha:ME X Er a fa) (hb:ME X Er b fb) (hk:behindInMarks o b=false:=by first|exact lH _|with_unfolding_all rfl):ME X Er (.Compare a [o] [b] pos) (zh op fa fb):=let ⟨_,h1,h2⟩:=h;Kf h1 h2 ha hb hk
def yh {o:CmpOp}{op:Am}(h:bD X o op) (ha:ME X Er a fa) (hb:ME X Er b fb) (hk:behindInMarks o b=false:=by first|exact lH _|with_unfolding_all rfl):MT X Er (.Compare a [o] [b] pos) (mB (zh op fa fb)):=let ⟨_,h1,h2⟩:=h;Kh h1 h2 ha hb hk
def Km {o o':CmpOp}{op cv:Am}(h:bD X o op) (h':bD X o' cv) (ha:ME X Er a fa) (hb:ME X Er b fb) (hc:ME X Er c fc)
  (hk:lastMarks [o,o'] [b,c]=false:=by with_unfolding_all rfl):ME X Er (.Compare a [o,o'] [b,c] pos) (kO op cv fa fb fc):=let ⟨_,h1,h2⟩:=h;let ⟨_,h3,h4⟩:=h';Ki h1 h2 h3 h4 ha hb hc hk
def Ko {o o':CmpOp}{op cv:Am}(h:bD X o op) (h':bD X o' cv) (ha:ME X Er a fa) (hb:ME X Er b fb) (hc:ME X Er c fc)
  (hk:lastMarks [o,o'] [b,c]=false:=by with_unfolding_all rfl):MT X Er (.Compare a [o,o'] [b,c] pos) (mB (kO op cv fa fb fc)):=let ⟨_,h1,h2⟩:=h;let ⟨_,h3,h4⟩:=h';Kj h1 h2 h3 h4 ha hb hc hk
def zw {op:Am}(h:iK X op) (ha:ME X Er a fa) (hb:ME X Er b fb) (hs:eU b:=by exact λ_ _=>rfl):ME X Er (.Subscript a b pos) (zh op fa fb):=let ⟨_,h1,h2⟩:=h;Kl h1 h2 ha hb hs
def Kq {o:UnaryOp}{op:PV->Mo PV}(h:rY X o op) (ha:ME X Er a fa):ME X Er (.UnaryOp o a pos) (zX op fa):=let ⟨_,h1,h2⟩:=h;Kk h1 h2 ha
def Out.ifp {α:Type}{ρ:Ae}{H:Hp}{p:Prop} [Decidable p] {r:Res α}{good:List Addr->Hp->α->ao->Prop}(h:Out K mg ρ H (if p then r else .stuck) good Er):p/\Out K mg ρ H r good Er:=by
 split at h
 ·rename_i hp;exact ⟨hp,h⟩
 ·exact h.elim
def yp {α:Type}(st:ao) (n:Nat) (k:List PV->Res α):Res α:=match st[n]? with
 | some (.lst xs)=>k xs
 | _=>.stuck
def yW {α:Type}(st:ao) (n:Nat) (k:List Str->List PV->Res α):Res α:=match st[n]? with
 | some (.dic ks xs)=>k ks xs
 | _=>.stuck
def jf {α:Type}(st:ao) (n:Nat) (k:Str->List Str->List PV->Res α):Res α:=match st[n]? with
 | some (.ins c ks xs)=>k c ks xs
 | _=>.stuck
def jy {α:Type}{ρ:Ae}{H:Hp}{st:ao}{n:Nat}{k:List PV->Res α}{good:List Addr->Hp->α->ao->Prop}(h:Out K mg ρ H (yp st n k) good Er):∃xs,st[n]?=some (.lst xs)/\Out K mg ρ H (k xs) good Er:=by
 unfold yp at h
 split at h
 ·rename_i xs e;exact ⟨xs,e,h⟩
 ·exact h.elim
def qu {α:Type}{ρ:Ae}{H:Hp}{st:ao}{n:Nat}{k:List Str->List PV->Res α}{good:List Addr->Hp->α->ao->Prop}(h:Out K mg ρ H (yW st n k) good Er):∃ks xs,st[n]?=some (.dic ks xs)/\Out K mg ρ H (k ks xs) good Er:=by
 unfold yW at h
 split at h
 ·rename_i ks xs e;exact ⟨ks,xs,e,h⟩
 ·exact h.elim
def BG {α:Type}{ρ:Ae}{H:Hp}{st:ao}{n:Nat}{k:Str->List Str->List PV->Res α}{good:List Addr->Hp->α->ao->Prop}(h:Out K mg ρ H (jf st n k) good Er):∃c ks xs,st[n]?=some (.ins c ks xs)/\Out K mg ρ H (k c ks xs) good Er:=by
 unfold jf at h
 split at h
 ·rename_i c ks xs e;exact ⟨c,ks,xs,e,h⟩
 ·exact h.elim
def opI (C:Int->Int->Bool) (g:Int->Int->Int):Am
 | .int i,.int j,st=>if C i j=true then .ok (.int (g i j)) st else .stuck
 | _,_,_=>.stuck
def wS {C:Int->Int->Bool}{g:Int->Int->Int}{P:Int->Int->Prop}(hC:∀i j,C i j=true->P i j):dh K mg (rI P λi j=>.int (g i j)) (opI C g):=by
 intro ρ H st x y v w Q E s rx ry h
 cases x with
 | int i =>
  cases y with
  | int j =>
   cases rx;cases ry
   obtain ⟨c,h⟩:=Out.ifp h
   exact ⟨i,j,rfl,rfl,hC i j c,h.now s _ rfl⟩
  | _=>exact h.elim
 | _=>exact h.elim
abbrev c0:Int->Int->Bool:=λ_ _=>true
def ug {g:Int->Int->V}{f:Value->Value->Sem Value}(h:ba X f (wo g)):ba X f (rI (λ_ _=>True) g):=λpins s U H x y v u Q I rx ry ⟨i,j,h1,h2,_,q⟩=>h pins s U H x y v u Q I rx ry ⟨i,j,h1,h2,q⟩
abbrev wc:=opI c0 λi j=>i-j
abbrev rZ:Int->Int->Bool:=λi j=>(decide (-(2 ^ 64)<i)&&decide (i<2 ^ 64))||(decide (-(2 ^ 64)<j)&&decide (j<2 ^ 64))
abbrev BH:=opI rZ λi j=>i*j
abbrev gT:Int->Int->Bool:=λi j=>decide (0<=j)&&decide (j<=1000000)&&decide (i.natAbs<2 ^ 64)
abbrev mz:=opI gT λi j=>i ^ j.toNat
abbrev BI:Int->Int->Bool:=λ_ j=>decide (j≠0)
def j3 (i j:Int):Int:=if 0<j then i%j else i.fmod j
abbrev yS:=opI BI j3
abbrev uh:Int->Int->Bool:=λ_ j=>decide (j≠0)&&decide (j.natAbs<2 ^ 200)
def j4 (i j:Int):Int:=if 0<j then i/j else i.fdiv j
abbrev jK:=opI uh j4
theorem Kr (i j:Int):j3 i j=i.fmod j:=by
 unfold j3;split
 ·rename_i h;rw [Int.fmod_eq_emod_of_nonneg _ (by omega)]
 ·rfl
def Ks (i j:Int):j4 i j=i.fdiv j:=by
 unfold j4;split
 ·rename_i h;rw [Int.fdiv_eq_ediv_of_nonneg _ (by omega)]
 ·rfl
def zbO:cE X .Sub wc:=⟨_,ug Ha,wS λ_ _ _=>trivial⟩
def Kt:cE X .Mult BH:=⟨_,Hb,wS λi j h=>by simpa [rZ,lG] using h⟩
def zir:cE X .Pow mz:=⟨_,Hd,wS λi j h=>by simp [gT] at h;exact ⟨h.1.1,h.1.2,h.2⟩⟩
def we:cE X .Mod yS:=⟨_,Hc,by
 have h:(λi j=>V.int (i.fmod j))=λi j=>V.int (j3 i j):=by funext i j;rw [Kr]
 rw [h];exact wS λi j h=>by simpa [BI] using h⟩
theorem Ku {y:Int}(h:y.natAbs<2 ^ 200):y.natAbs.log2<9000:=by
 by_cases h0:y.natAbs=0
 ·rw [h0];decide
 ·have:=(Nat.log2_lt h0).mpr h
  omega
def Kv:ba X (binaryOp .FloorDiv) (rI (λ_ j=>j≠0/\j.natAbs<2 ^ 200) λi j=>.int (i.fdiv j)):=L2.opI λ_ _ _ _ _ _ _ hc q=>PyProof.Rows.floordiv_int hc.1 q (.inl (PyProof.noPylong_of_log2 (Ku hc.2)))
def zaI:cE X .FloorDiv jK:=⟨_,Kv,by
 have h:(λi j=>V.int (i.fdiv j))=λi j=>V.int (j4 i j):=by funext i j;rw [Ks]
 rw [h];exact wS λi j h=>by simpa [uh] using h⟩
def BJ:PV->Mo PV
 | .int i,st=>.ok (.int (-i)) st
 | _,_=>.stuck
def Kw:rY X .USub BJ:=⟨_,Hj,by
 intro ρ H st x v Q E s rx h
 cases x with
 | int i=>cases rx;exact ⟨i,rfl,Out.now (x:=PV.int (-i)) h s _ rfl⟩
 | _=>exact h.elim⟩
def yo:Am
 | .int i,.int j,st=>.ok (.int (i+j)) st
 | .str x,.str y,st=>if x.length+y.length<=lim then .ok (.str (x++y)) st else .stuck
 | .tup xs,.tup ys,st=>if xs.length+ys.length<=lim then .ok (.tup (xs++ys)) st else .stuck
 | .ref n,.ref m,st=>yp st n λxs=>yp st m λys=>if xs.length+ys.length<=lim then .ok (.ref st.length) (st++[.lst (xs++ys)]) else .stuck
 | _,_,_=>.stuck
def Ky (K:Frag):R2:=λx y H Q=>∃a b ys,x=.ref a/\y=.ref b/\bg K H a []/\bg K H b ys/\Q (.ref b) H
def Kz:ba X (binaryOp .Add) (Ky X.K):=by
 intro pins s U H x y v u Q I rx ry h
 obtain ⟨a,b,ys,rfl,rfl,h1,h2,q⟩:=h
 cases rx;cases ry
 obtain ⟨i1,r1,p1,_⟩:=I.tuple h1
 obtain ⟨i2,r2,p2,_⟩:=I.tuple h2
 cases r1
 exact HT.cat_tup0 p1 p2 ⟨.ref b,H,I,rfl,q⟩
def yT:cE X .Add yo:=⟨_,G_.or (Ht.or (Kz.or (Il.or IG))),by
 intro ρ H st x y v w Q E s rx ry h
 cases x with
 | int i =>
  cases y with
  | int j=>cases rx;cases ry;exact .inl ⟨i,j,rfl,rfl,Out.now (x:=PV.int (i+j)) h s _ rfl⟩
  | _=>exact h.elim
 | str i =>
  cases y with
  | str j =>
   cases rx;cases ry
   obtain ⟨c,h⟩:=Out.ifp h
   exact .inr (.inl ⟨i,j,rfl,rfl,yZ c,h.now s _ rfl⟩)
  | _=>exact h.elim
 | tup xs =>
  cases y with
  | tup ys =>
   obtain ⟨p,vs,rfl,h1,h2⟩:=rx
   obtain ⟨q,ws,rfl,h3,h4⟩:=ry
   obtain ⟨c,h⟩:=Out.ifp h
   cases xs with
   | nil =>
    cases h2
    exact .inr (.inr (.inl ⟨p,q,ws,rfl,rfl,h1,h3,h.now s _ ⟨q,ws,rfl,h3,h4⟩⟩))
   | cons x0 oi =>
    refine .inr (.inr (.inr (.inl ⟨p,q,vs,ws,rfl,rfl,h1,h3,?_,?_,λe=>?_,λ_ l hl=>?_⟩)))
    ·obtain ⟨v0,r0,e0,_⟩:=h2;rw [e0];simp
    ·rw [<-h2.len,<-h4.len];exact yZ c
    ·subst e
     have:ys=[]:=by have:=h4.len;simpa using this
     subst this
     exact h.now s _ ⟨p,vs,rfl,h1,by simpa using h2⟩
    ·exact h ρ _ (Ext.new hl) (s.new hl) _ (R.tup_of (h2.append h4) hl)
  | _=>exact h.elim
 | ref n =>
  cases y with
  | ref m =>
   obtain ⟨p,rfl,hp⟩:=rx
   obtain ⟨q,rfl,hq⟩:=ry
   obtain ⟨xs,e1,h⟩:=jy h
   obtain ⟨ys,e2,h⟩:=jy h
   obtain ⟨c,h⟩:=Out.ifp h
   obtain ⟨vs,h1,h2⟩:=s.addr e1 hp
   obtain ⟨ws,h3,h4⟩:=s.addr e2 hq
   exact .inr (.inr (.inr (.inr ⟨p,q,vs,ws,rfl,rfl,h1,h3,by rw [<-h2.len,<-h4.len];exact yZ c,λl hl=>Out.newList h s (h2.append h4) hl⟩)))
  | _=>exact h.elim
 | _=>exact h.elim⟩
def oj (g:Int->Int->Bool):Am
 | .int i,.int j,st=>.ok (.bl (g i j)) st
 | _,_,_=>.stuck
def uk {g:Int->Int->Bool}:dh K mg (wo λi j=>.bl (g i j)) (oj g):=by
 intro ρ H st x y v w Q E s rx ry h
 cases x with
 | int i =>
  cases y with
  | int j=>cases rx;cases ry;exact ⟨i,j,rfl,rfl,Out.now (x:=PV.bl (g i j)) h s _ rfl⟩
  | _=>exact h.elim
 | _=>exact h.elim
abbrev j5:=oj λi j=>decide (i<j)
abbrev oLe:=oj λi j=>decide (i<=j)
abbrev iL:=oj λi j=>decide (j<i)
def wT:bD X .Lt j5:=⟨_,Hk,uk⟩
def KA:bD X .LtE oLe:=⟨_,Hl,uk⟩
def zes:bD X .Gt iL:=⟨_,Hm,uk⟩
def fI:PV->Bool
 | .non=>true
 | _=>false
def BK:Am
 | x,.non,st=>.ok (.bl (!fI x)) st
 | _,_,_=>.stuck
def KC {ρ:Ae}{H:Hp}{x:PV}{v:V}(r:R K mg ρ H x v):decide (v=.non)=fI x:=by
 cases x with
 | non=>cases r;rfl
 | bl _=>cases r;rfl
 | int _=>cases r;rfl
 | str _=>cases r;rfl
 | ty _=>cases r;rfl
 | tup _=>obtain ⟨_,_,rfl,_⟩:=r;rfl
 | frl _=>obtain ⟨_,_,rfl,_⟩:=r;rfl
 | ref _=>obtain ⟨_,rfl,_⟩:=r;rfl
 | fn _=>obtain ⟨_,rfl,_⟩:=r;rfl
 | kd _ _=>obtain ⟨_,_,_,rfl,_⟩:=r;rfl
 | exo _ _ _=>obtain ⟨_,_,_,_,rfl,_⟩:=r;rfl
def KG:bD X .IsNot BK:=⟨_,Ho,by
 intro ρ H st x y v w Q E s rx ry h
 cases y with
 | non=>cases ry;exact ⟨rfl,by rw [KC rx];exact Out.now (x:=PV.bl (!fI x)) h s _ rfl⟩
 | _=>exact h.elim⟩
def um {ρ:Ae}{H:Hp}{xs:An}{vs:List V}{i:Int}{x:PV}(r:Rs K mg ρ H xs vs) (h:c7 xs i=some x):∃v,c7 vs i=some v/\R K mg ρ H x v:=by
 unfold c7 at h ⊢
 rw [<-r.len]
 cases hj:kl xs.length i with
 | none=>rw [hj] at h;cases h
 | some j =>
  rw [hj] at h
  obtain ⟨v,h1,h2⟩:=r.get (show xs[j]?=some x from h)
  exact ⟨v,h1,h2⟩
def bP:Option PV->Mo PV
 | some x,st=>.ok x st
 | none,_=>.stuck
def uq:Am
 | .tup xs,.int i,st=>bP (c7 xs i) st
 | .frl xs,.int i,st=>bP (c7 xs i) st
 | .str z,.int i,st=>if z.length<=lim then bP ((c7 z.cps.toList i).map λc=>.str ⟨#[c]⟩) st else .stuck
 | .ref n,.int i,st=>yp st n λxs=>bP (c7 xs i) st
 | _,_,_=>.stuck
def iM {ρ:Ae}{H:Hp}{o:Option PV}{st:ao}{good}(h:Out K mg ρ H (bP o st) good Er):∃x,o=some x/\Out K mg ρ H (.ok x st) good Er:=by
 cases o with
 | some x=>exact ⟨x,rfl,h⟩
 | none=>exact h.elim
def KH:iK X uq:=⟨_,Iu,by
 intro ρ H st x y v w Q E s rx ry h
 cases x with
 | tup xs =>
  cases y with
  | int i =>
   cases ry
   obtain ⟨p,vs,rfl,h1,h2⟩:=rx
   obtain ⟨x,e,h⟩:=iM h
   obtain ⟨v,h3,h4⟩:=um h2 e
   exact .inr (.inl ⟨p,vs,i,v,rfl,rfl,h1,h3,h.now s _ h4⟩)
  | _=>exact h.elim
 | frl xs =>
  cases y with
  | int i =>
   cases ry
   obtain ⟨p,vs,rfl,h1,h2⟩:=rx
   obtain ⟨x,e,h⟩:=iM h
   obtain ⟨v,h3,h4⟩:=um h2 e
   exact .inl ⟨p,vs,i,v,rfl,rfl,h1.sq,h3,h.now s _ h4⟩
  | _=>exact h.elim
 | str z =>
  cases y with
  | int i =>
   cases ry;cases rx
   obtain ⟨c,h⟩:=Out.ifp h
   obtain ⟨x,e,h⟩:=iM h
   cases hc:c7 z.cps.toList i with
   | none=>rw [hc] at e;cases e
   | some k =>
    rw [hc] at e
    cases e
    exact .inr (.inr ⟨z,i,k,rfl,rfl,yZ c,hc,h.now s _ rfl⟩)
  | _=>exact h.elim
 | ref n =>
  cases y with
  | int i =>
   cases ry
   obtain ⟨p,rfl,hp⟩:=rx
   obtain ⟨xs,e1,h⟩:=jy h
   obtain ⟨vs,h1,h2⟩:=s.addr e1 hp
   obtain ⟨x,e,h⟩:=iM h
   obtain ⟨v,h3,h4⟩:=um h2 e
   exact .inl ⟨p,vs,i,v,rfl,rfl,bo.of h1,h3,h.now s _ h4⟩
  | _=>exact h.elim
 | _=>exact h.elim⟩
end
mutual
def plain:PV->Bool
 | .non=>true
 | .bl _=>true
 | .int _=>true
 | .str _=>true
 | .tup xs=>bV xs
 | _=>false
def bV:List PV->Bool
 | []=>true
 | x::xs=>plain x&&bV xs
end
mutual
def dep:PV->Nat
 | .tup xs=>dX xs+1
 | _=>0
def dX:List PV->Nat
 | []=>0
 | x::xs=>max (dep x) (dX xs)
end
mutual
def bz:PV->PV->Bool
 | .non,.non=>true
 | .bl a,.bl b=>a==b
 | .bl a,.int b=>(if a then 1 else 0)==b
 | .int a,.bl b=>a==(if b then 1 else 0)
 | .int a,.int b=>a==b
 | .str a,.str b=>a==b
 | .tup xs,.tup ys=>dY xs ys
 | _,_=>false
def dY:List PV->List PV->Bool
 | [],[]=>true
 | x::xs,y::ys=>bz x y&&dY xs ys
 | _,_=>false
end
section
variable {X:Cx}{Er:XK}{K:Frag}{mg:Ab}{ρ:Ae}{pins:Ac}{U:L2.St}{H:Hp}{s:Shared}
mutual
theorem BL (I:Inv X pins U H s):∀(x y:PV) {v:V},plain x=true->plain y=true->R X.K mg ρ H x v->R X.K mg ρ H y v->bz x y=true
 | .non,y,v,_,py,rx,ry=>by
  cases rx
  cases y with
  | non=>rfl
  | tup ys=>obtain ⟨_,_,e,_⟩:=ry;cases e
  | bl _=>cases ry
  | int _=>cases ry
  | str _=>cases ry
  | _=>cases py
 | .bl a,y,v,_,py,rx,ry=>by
  cases rx
  cases y with
  | bl b=>cases ry;simp [bz]
  | tup ys=>obtain ⟨_,_,e,_⟩:=ry;cases e
  | non=>cases ry
  | int _=>cases ry
  | str _=>cases ry
  | _=>cases py
 | .int a,y,v,_,py,rx,ry=>by
  cases rx
  cases y with
  | int b=>cases ry;simp [bz]
  | tup ys=>obtain ⟨_,_,e,_⟩:=ry;cases e
  | non=>cases ry
  | bl _=>cases ry
  | str _=>cases ry
  | _=>cases py
 | .str a,y,v,_,py,rx,ry=>by
  cases rx
  cases y with
  | str b=>cases ry;simp [bz]
  | tup ys=>obtain ⟨_,_,e,_⟩:=ry;cases e
  | non=>cases ry
  | bl _=>cases ry
  | int _=>cases ry
  | _=>cases py
 | .tup xs,y,v,px,py,rx,ry=>by
  obtain ⟨a,vs,rfl,h1,h2⟩:=rx
  cases y with
  | tup ys =>
   obtain ⟨b,ws,e,h3,h4⟩:=ry
   cases e
   have:=I.tuple_inj h1 h3
   subst this
   exact iN I xs ys px py h2 h4
  | non=>cases ry
  | bl _=>cases ry
  | int _=>cases ry
  | str _=>cases ry
  | _=>cases py
 | .ty _,_,_,px,_,_,_=>by cases px
 | .frl _,_,_,px,_,_,_=>by cases px
 | .ref _,_,_,px,_,_,_=>by cases px
 | .fn _,_,_,px,_,_,_=>by cases px
 | .kd _ _,_,_,px,_,_,_=>by cases px
 | .exo _ _ _,_,_,px,_,_,_=>by cases px
theorem iN (I:Inv X pins U H s):∀(xs ys:An) {vs:List V},bV xs=true->bV ys=true->Rs X.K mg ρ H xs vs->Rs X.K mg ρ H ys vs->dY xs ys=true
 | [],ys,vs,_,py,rx,ry=>by
  cases rx
  cases ys with
  | nil=>rfl
  | cons y ys=>obtain ⟨_,_,e,_⟩:=ry;cases e
 | x::xs,ys,vs,px,py,rx,ry=>by
  obtain ⟨v,r,rfl,h1,h2⟩:=rx
  cases ys with
  | nil=>cases ry
  | cons y ys =>
   obtain ⟨v',r',e,h3,h4⟩:=ry
   cases e
   simp only [bV,j9] at px py
   simp only [dY,j9]
   exact ⟨BL I x y px.1 py.1 h1 h3,iN I xs ys px.2 py.2 h2 h4⟩
end
def fg (xs ys:An) (j:Nat):Bool:=match xs[j]?,ys[j]? with
 | some x,some y=>bz x y
 | _,_=>true
theorem BM:∀(xs ys:An),((List.range (min xs.length ys.length)).all (fg xs ys)&&xs.length==ys.length)=dY xs ys
 | [],[]=>rfl
 | [],y::ys=>by simp [dY]
 | x::xs,[]=>by simp [dY]
 | x::xs,y::ys=>by
  have ih:=BM xs ys
  have e1:min (x::xs).length (y::ys).length=min xs.length ys.length+1:=by simp only [wz];omega
  have e2:((x::xs).length==(y::ys).length)=(xs.length==ys.length):=by
   rw [Bool.eq_iff_iff];simp
  rw [e1,e2,List.range_succ_eq_map,List.all_cons,List.all_map]
  have e3:(fg (x::xs) (y::ys)∘Nat.succ)=fg xs ys:=by
   funext j
   simp [fg]
  rw [e3,Bool.and_assoc,ih]
  simp [dY,fg]
theorem zev:∀{xs:An}{i:Nat}{x:PV},xs[i]?=some x->dep x<=dX xs
 | [],_,_,e=>by simp at e
 | y::xs,0,x,e=>by simp at e;subst e;simp only [dX];omega
 | y::xs,i+1,x,e=>by
  simp at e
  have:=zev e
  simp only [dX];omega
theorem qv:∀{xs:An}{i:Nat}{x:PV},bV xs=true->xs[i]?=some x->plain x=true
 | [],_,_,_,e=>by simp at e
 | y::xs,0,x,p,e=>by simp at e;subst e;simp only [bV,j9] at p;exact p.1
 | y::xs,i+1,x,p,e=>by
  simp at e
  simp only [bV,j9] at p
  exact qv p.2 e
def qw (A:Around):A.in1.units=A.units+1:=rfl
theorem ur (I:Inv X pins U H s):∀(n:Nat) (x y:PV) {v w:V}{u u':Value}(A:Around),dep x<=n->plain x=true->plain y=true->R X.K mg ρ H x v->R X.K mg ρ H y w->RelV v u->RelV w u'->A.units+n<cLine ->
  SeqAt.EqAt A s u u' (bz x y)/\SeqAt.RcAt A s u u' (bz x y)/\SeqAt.RcNeAt A s u u' (!bz x y):=by
 intro n
 induction n with
 | zero =>
  intro x y v w u u' A hd px py rx ry rv rw hu
  cases x with
  | tup xs=>simp only [dep] at hd;omega
  | non =>
   cases rx;cases rv
   cases y with
   | non=>cases ry;cases rw;exact ⟨.same _,.none_none,.none_none⟩
   | bl b=>cases ry;cases rw;exact ⟨.none_bool b,.none_bool b,.none_bool b⟩
   | int b=>cases ry;obtain ⟨t,rfl⟩:=rw;exact ⟨.none_int b t,.none_int b t,.none_int b t⟩
   | str b=>cases ry;obtain ⟨t,rfl⟩:=rw;exact ⟨.none_str b t,.none_str b t,.none_str b t⟩
   | tup ys =>
    obtain ⟨p,ws,rfl,h1,h2⟩:=ry
    cases rw
    obtain ⟨its,_,pl,_⟩:=I.tuple h1
    exact ⟨.none_tuple pl (by omega),.none_tuple pl (by omega),.none_tuple pl (by omega)⟩
   | _=>cases py
  | bl a =>
   cases rx;cases rv
   cases y with
   | non=>cases ry;cases rw;exact ⟨.bool_none a,.bool_none a,.bool_none a⟩
   | bl b=>cases ry;cases rw;exact ⟨.bool_bool a b,.bool_bool a b,.bool_bool a b⟩
   | int b=>cases ry;obtain ⟨t,rfl⟩:=rw;exact ⟨.bool_int a b t,.bool_int a b t,.bool_int a b t⟩
   | str b=>cases ry;obtain ⟨t,rfl⟩:=rw;exact ⟨.bool_str a b t,.bool_str a b t,.bool_str a b t⟩
   | tup ys =>
    obtain ⟨p,ws,rfl,h1,h2⟩:=ry
    cases rw
    obtain ⟨its,_,pl,_⟩:=I.tuple h1
    exact ⟨.bool_tuple a pl (by omega),.bool_tuple a pl (by omega),.bool_tuple a pl (by omega)⟩
   | _=>cases py
  | int a =>
   cases rx;obtain ⟨t0,rfl⟩:=rv
   cases y with
   | non=>cases ry;cases rw;exact ⟨.int_none a t0,.int_none a t0,.int_none a t0⟩
   | bl b=>cases ry;cases rw;exact ⟨.int_bool a t0 b,.int_bool a t0 b,.int_bool a t0 b⟩
   | int b=>cases ry;obtain ⟨t,rfl⟩:=rw;exact ⟨.int_int a t0 b t,.int_int a t0 b t,.int_int a t0 b t⟩
   | str b=>cases ry;obtain ⟨t,rfl⟩:=rw;exact ⟨.int_str a t0 b t,.int_str a t0 b t,.int_str a t0 b t⟩
   | tup ys =>
    obtain ⟨p,ws,rfl,h1,h2⟩:=ry
    cases rw
    obtain ⟨its,_,pl,_⟩:=I.tuple h1
    exact ⟨.int_tuple a t0 pl (by omega),.int_tuple a t0 pl (by omega),.int_tuple a t0 pl (by omega)⟩
   | _=>cases py
  | str a =>
   cases rx;obtain ⟨t0,rfl⟩:=rv
   cases y with
   | non=>cases ry;cases rw;exact ⟨.str_none a t0,.str_none a t0,.str_none a t0⟩
   | bl b=>cases ry;cases rw;exact ⟨.str_bool a t0 b,.str_bool a t0 b,.str_bool a t0 b⟩
   | int b=>cases ry;obtain ⟨t,rfl⟩:=rw;exact ⟨.str_int a t0 b t,.str_int a t0 b t,.str_int a t0 b t⟩
   | str b=>cases ry;obtain ⟨t,rfl⟩:=rw;exact ⟨.str_str a t0 b t,.str_str a t0 b t,.str_str a t0 b t⟩
   | tup ys =>
    obtain ⟨p,ws,rfl,h1,h2⟩:=ry
    cases rw
    obtain ⟨its,_,pl,_⟩:=I.tuple h1
    exact ⟨.str_tuple a t0 pl (by omega),.str_tuple a t0 pl (by omega),.str_tuple a t0 pl (by omega)⟩
   | _=>cases py
  | _=>cases px
 | succ n ih =>
  intro x y v w u u' A hd px py rx ry rv rw hu
  cases x with
  | tup xs =>
   obtain ⟨a,vs,rfl,h1,h2⟩:=id rx
   cases rv
   obtain ⟨its,r1,p1,_⟩:=I.tuple h1
   cases y with
   | non=>cases ry;cases rw;exact ⟨.tuple_none p1 (by omega),.tuple_none p1 (by omega),.tuple_none p1 (by omega)⟩
   | bl b=>cases ry;cases rw;exact ⟨.tuple_bool b p1 (by omega),.tuple_bool b p1 (by omega),.tuple_bool b p1 (by omega)⟩
   | int b=>cases ry;obtain ⟨t,rfl⟩:=rw;exact ⟨.tuple_int b t p1 (by omega),.tuple_int b t p1 (by omega),.tuple_int b t p1 (by omega)⟩
   | str b=>cases ry;obtain ⟨t,rfl⟩:=rw;exact ⟨.tuple_str b t p1 (by omega),.tuple_str b t p1 (by omega),.tuple_str b t p1 (by omega)⟩
   | tup ys =>
    obtain ⟨b,ws,rfl,h3,h4⟩:=id ry
    cases rw
    obtain ⟨aV,r2,p2,_⟩:=I.tuple h3
    have l1:=h2.len
    have l2:=h4.len
    have l3:=r1.length
    have l4:=r2.length
    have item:∀j (g1:j<its.toArray.size) (g2:j<aV.toArray.size),SeqAt.EqAt A.in1 s its.toArray[j] aV.toArray[j] (fg xs ys j):=λj g1 g2=>by
     have k1:j<xs.length:=by rw [l1,l3];simpa using g1
     have k2:j<ys.length:=by rw [l2,l4];simpa using g2
     obtain ⟨v1,e1,uv⟩:=h2.get (yB k1)
     obtain ⟨v2,e2,uw⟩:=h4.get (yB k2)
     obtain ⟨u1,f1,ux⟩:=r1.get e1
     obtain ⟨u2,f2,uz⟩:=r2.get e2
     have w1:its.toArray[j]=u1:=by
      obtain ⟨_,z⟩:=yt.mp f1
      simpa using z
     have w2:aV.toArray[j]=u2:=by
      obtain ⟨_,z⟩:=yt.mp f2
      simpa using z
     have ej:fg xs ys j=bz xs[j] ys[j]:=by
      unfold fg
      rw [yB k1,yB k2]
     rw [w1,w2,ej]
     have Wa:=zev (yB k1)
     simp only [dep] at hd
     exact (ih xs[j] ys[j] A.in1 (by omega) (qv px (yB k1)) (qv py (yB k2)) uv uw ux uz (by rw [qw];omega)).1
    have r6:((List.range (min its.toArray.size aV.toArray.size)).all (fg xs ys)&&its.toArray.size==aV.toArray.size)=bz (.tup xs) (.tup ys):=by
     have e:=BM xs ys
     rw [l1,l2,l3,l4] at e
     simpa [bz] using e
    have rc:SeqAt.RcAt A s (.ref a) (.ref b) (bz (.tup xs) (.tup ys)):=by
     rw [<-r6]
     exact SeqAt.RcAt.tuples (show s.heap.IsTuple a its.toArray from p1) (show s.heap.IsTuple b aV.toArray from p2) (by omega) item
    refine ⟨?_,rc,?_⟩
    ·by_cases eF:a=b
     ·subst eF
      rw [BL I (.tup xs) (.tup ys) px py rx ry]
      exact .same _
     ·exact .of_refs eF rc
    ·rw [<-r6]
     exact SeqAt.RcNeAt.tuples (show s.heap.IsTuple a its.toArray from p1) (show s.heap.IsTuple b aV.toArray from p2) (by omega) item
   | _=>cases py
  | non=>exact ih _ y A (jc _) px py rx ry rv rw (by omega)
  | bl a=>exact ih _ y A (jc _) px py rx ry rv rw (by omega)
  | int a=>exact ih _ y A (jc _) px py rx ry rv rw (by omega)
  | str a=>exact ih _ y A (jc _) px py rx ry rv rw (by omega)
  | _=>cases px
def yq:Am:=λx y st=>if plain x=true/\plain y=true/\dep x<=150 then .ok (.bl (bz x y)) st else .stuck
def wC:Am:=λx y st=>if plain x=true/\plain y=true/\dep x<=150 then .ok (.bl (!bz x y)) st else .stuck
def BN (K:Frag) (mg:Ab) (f:Bool->Bool):R2:=λv w H Q=>∃ρ x y,plain x=true/\plain y=true/\dep x<=150/\R K mg ρ H x v/\R K mg ρ H y w/\Q (.bl (f (bz x y))) H
theorem KI (hu:X.A.units+200<cLine):ba X (compareOp .Eq) (BN X.K X.mg id):=by
 intro pins s U H x y v u Q I rx ry h
 obtain ⟨ρ,a,b,pa,pb,hd,ra,rb,q⟩:=h
 exact PySem.EqBoolInt.of_rc (ur I 150 a b X.A hd pa pb ra rb rx ry (by omega)).2.1 ⟨.bl _,H,I,rfl,q⟩
def KJ (hu:X.A.units+200<cLine):ba X (compareOp .NotEq) (BN X.K X.mg not):=by
 intro pins s U H x y v u Q I rx ry h
 obtain ⟨ρ,a,b,pa,pb,hd,ra,rb,q⟩:=h
 exact PySem.EqBoolInt.of_rcne (ur I 150 a b X.A hd pa pb ra rb rx ry (by omega)).2.2 ⟨.bl _,H,I,rfl,q⟩
def yU (hu:X.A.units+200<cLine):bD X .Eq yq:=⟨_,KI hu,fun ρ H st x y v w Q E s rx ry h=>by
 obtain ⟨⟨p1,p2,p3⟩,h⟩:=Out.ifp h
 exact ⟨ρ,x,y,p1,p2,p3,rx,ry,h.now s _ rfl⟩⟩
def zaJ (hu:X.A.units+200<cLine):bD X .NotEq wC:=⟨_,KJ hu,fun ρ H st x y v w Q E s rx ry h=>by
 obtain ⟨⟨p1,p2,p3⟩,h⟩:=Out.ifp h
 exact ⟨ρ,x,y,p1,p2,p3,rx,ry,h.now s _ rfl⟩⟩
end
section
variable {X:Cx}{Er:XK}{K:Frag}{mg:Ab}{a b c e:Expr}{es:List Expr}{pos:Pos}{fa fb fc:Ai}{fs:Ah}
def KL (K:Frag) (mg:Ab) (Er:XK) (f:zc->Mo (Option Int)):TO:=λU H Q=>∃env st ρ,bj K mg ρ H env U/\bf K mg ρ H st/\Out K mg ρ H (f env st) (λ_ H' o _=>Q o H') Er
def MO (X:Cx) (Er:XK) (e:Option Expr) (f:zc->Mo (Option Int)):Prop:=PO X e (KL X.K X.mg Er f)
def hG:zc->Mo (Option Int):=λ_ st=>.ok none st
def uA:PV->Mo (Option Int)
 | .int i,st=>.ok (some i) st
 | _,_=>.stuck
def c_ (f:Ai):zc->Mo (Option Int):=λenv st=>(f env st).bind uA
def PO.weak {o:Option Expr}{t t':TO}(h:PO X o t) (w:∀U H Q,t' U H Q->t U H Q):PO X o t':=λpins s U H Q I q=>h pins s U H Q I (w U H Q q)
def zex:MO X Er none hG:=PO.weak Ic λU H Q ⟨env,st,ρ,re,rs,h⟩=>h.now rs
def zbP (h:ME X Er e fa):MO X Er (some e) (c_ fa):=PO.weak (Ie h) λU H Q ⟨env,st,ρ,re,rs,h⟩=>⟨env,st,ρ,re,rs,h.then λag H1 x ae e1 s1 h1 v rv=>by
 cases x with
 | int i=>cases rv;exact ⟨i,rfl,Out.now (x:=some i) h1 s1⟩
 | _=>exact h1.elim⟩
def di (xs:An) (lo hi:Option Int):An:=(xs.drop (HT.sIx xs.length 0 lo)).take (HT.sIx xs.length xs.length hi-HT.sIx xs.length 0 lo)
def qx:PV->Option Int->Option Int->Mo PV
 | .tup xs,lo,hi,st=>.ok (.tup (di xs lo hi)) st
 | .frl xs,lo,hi,st=>.ok (.ref st.length) (st++[.lst (di xs lo hi)])
 | .ref n,lo,hi,st=>yp st n λxs=>.ok (.ref st.length) (st++[.lst (di xs lo hi)])
 | .str z,lo,hi,st=>if z.length<=lim then .ok (.str (Txt.slice z lo hi)) st else .stuck
 | _,_,_,_=>.stuck
def Rs.cut {ρ:Ae}{H:Hp}{xs:An}{vs:List V}(r:Rs K mg ρ H xs vs) (lo hi:Option Int):Rs K mg ρ H (di xs lo hi) (fO vs lo hi):=by
 unfold di fO
 rw [r.len]
 exact (r.drop _).take _
def KN (K:Frag):V->Option Int->Option Int->Hp->VK->Prop:=λx lo hi H Q=>∃a xs,x=.ref a/\bg K H a xs/\(HT.sIx xs.length 0 lo=0/\HT.sIx xs.length xs.length hi=xs.length)/\Q (.ref a) H
def KO:gY X (KN X.K):=by
 intro pins s U H x v vl vu lo hi sl Q I rx hs pl pu h
 obtain ⟨a,xs,rfl,hx,hw,q⟩:=h
 cases rx
 obtain ⟨its,r,ht,hz⟩:=I.tuple hx
 have hlen:its.toArray.size=xs.length:=by rw [yV];exact r.length.symm
 refine ⟨"tuple", _,PyProof.Rows.slot_tuple_getitem.lookup,ht.typeIs,?_⟩
 exact HT.getItem_tuple_all ht hs pl pu (by rw [hlen];exact hw) ⟨.ref a,H,I,rfl,q⟩ (by rw [hlen];exact hz)
def iO (fa:Ai) (fl fu:zc->Mo (Option Int)):Ai:=λenv st=>(fa env st).bind λx ae=>(fl env ae).bind λl av=>(fu env av).bind λu a_=>qx x l u a_
def zcO {lo hi:Option Expr}{fl fu:zc->Mo (Option Int)}{p2:Pos}(ha:ME X Er a fa) (hl:MO X Er lo fl) (hu:MO X Er hi fu):ME X Er (.Subscript a (.Slice lo hi none p2) pos) (iO fa fl fu) :=
 PE.weak (Ih (Ij.or (KO.or (Iz.or IZ))) ha hl hu) λU H Q ⟨env,st,ρ,re,rs,h⟩=>⟨env,st,ρ,re,rs,h.then λag H1 x ae e1 s1 h1 v rv=>⟨env,ae,ag,re.ext e1,s1,h1.then λam H2 l av e2 s2 h2 =>
  ⟨env,av,am,(re.ext e1).ext e2,s2,h2.then λal H3 u a_ e3 s3 h3=>by
  have rv:=R.ext e3 x (R.ext e2 x rv)
  cases x with
  | tup xs =>
   obtain ⟨p,vs,rfl,k1,k2⟩:=rv
   by_cases hw:HT.sIx vs.length 0 l=0/\HT.sIx vs.length vs.length u=vs.length
   ·refine .inr (.inl ⟨p,vs,rfl,k1,hw,Out.now (x:=PV.tup (di xs l u)) h3 s3 _ ⟨p,vs,rfl,k1,?_⟩⟩)
    have:di xs l u=xs:=by
     unfold di
     rw [k2.len,hw.1,hw.2]
     simp [<-k2.len]
    rw [this];exact k2
   ·exact .inl ⟨p,vs,rfl,k1,hw,λq hq=>h3 al _ (Ext.new hq) (s3.new hq) _ (R.tup_of (k2.cut l u) hq)⟩
  | frl xs =>
   obtain ⟨p,vs,rfl,k1,k2⟩:=rv
   exact .inr (.inr (.inl ⟨p,vs,rfl,k1.sq,λq hq=>Out.newList (xs:=di xs l u) h3 s3 (k2.cut l u) hq⟩))
  | ref n =>
   obtain ⟨p,rfl,hp⟩:=rv
   obtain ⟨xs,k0,h3⟩:=jy h3
   obtain ⟨vs,k1,k2⟩:=s3.addr k0 hp
   exact .inr (.inr (.inl ⟨p,vs,rfl,bo.of k1,λq hq=>Out.newList (xs:=di xs l u) h3 s3 (k2.cut l u) hq⟩))
  | str z =>
   cases rv
   obtain ⟨k0,h3⟩:=Out.ifp h3
   exact .inr (.inr (.inr ⟨z,rfl,yZ k0,h3.now s3 _ rfl⟩))
  | _=>exact h3.elim⟩⟩⟩
def uB (K:Frag) (mg:Ab) (r:List V->Hp->VK->Prop) (op:Al):Prop:=∀ρ H st xs vs (Q:VK) (E:XK),bf K mg ρ H st->Rs K mg ρ H xs vs->Out K mg ρ H (op xs st) (gV K mg Q) E->r vs H Q
def cV (X:Cx) (f:Value) (op:Al):Prop:=∃r,bQ X f r/\uB X.K X.mg r op
def zt (op:Al) (fs:Ah):Ai:=λenv st=>(fs env st).bind op
def y3 {x:Str} {id:String} {op:Al} {p:Pos} (h:cV X (.builtin id) op) (hm:X.mg x=none) (hv:bootBuiltins x=some (.builtin id)) (ha:MA X Er (e::es) fs) (hg:Gl X x:=by rfl) (hn:x ≠ "__name__" := by decide) (bG:(x==("__debug__" : Str))=false:=by decide)
  (he:starEach (e::es) X.env=(false,eval e X.env)::starEach es X.env:=by rfl) (br:(backTo pos (starEach es X.env)).any (·.1)=false:=by rfl):ME X Er (.Call (.Name x p) (e::es) [] pos) (zt op fs):=by
 obtain ⟨r,h1,h2⟩:=h
 exact PE.weak (HW h1 hg hm hv ha hn bG he br) λU H Q ⟨env,st,ρ,re,rs,h⟩=>⟨env,st,ρ,re,rs,h.then λag H1 xs ae e1 s1 k vs rv=>h2 ag H1 ae xs vs Q Er s1 rv k⟩
def y7 {x:Str} {T:String} {op:Al} {p:Pos} (h:cV X (.type T) op) (hm:X.mg x=none) (hv:bootBuiltins x=some (.type T)) (ha:MA X Er (e::es) fs) (hg:Gl X x:=by rfl) (hn:x ≠ "__name__" := by decide) (bG:(x==("__debug__" : Str))=false:=by decide)
  (he:starEach (e::es) X.env=(false,eval e X.env)::starEach es X.env:=by rfl) (br:(backTo pos (starEach es X.env)).any (·.1)=false:=by rfl):ME X Er (.Call (.Name x p) (e::es) [] pos) (zt op fs):=by
 obtain ⟨r,h1,h2⟩:=h
 exact PE.weak (HX h1 hg hm hv ha hn bG he br) λU H Q ⟨env,st,ρ,re,rs,h⟩=>⟨env,st,ρ,re,rs,h.then λag H1 xs ae e1 s1 k vs rv=>h2 ag H1 ae xs vs Q Er s1 rv k⟩
def qy {x:Str} {n:String} (hm:X.mg x=none) (hv:bootBuiltins x=some (.type n)) (hg:Gl X x:=by rfl) (hn:x ≠ "__name__" := by decide) (hd:(x==("__debug__" : Str))=false:=by decide):ME X Er (.Name x pos) (mC (.ty n)) :=
 mw (Gb (v:=.ty n) hg hm hv rfl hn hd) λ_ _=>rfl
def Rs.one {ρ:Ae}{H:Hp}{x:PV}{vs:List V}(r:Rs K mg ρ H [x] vs):∃v,vs=[v]/\R K mg ρ H x v:=by
 obtain ⟨v,r',rfl,h,h'⟩:=r
 cases h'
 exact ⟨v,rfl,h⟩
def Rs.two {ρ:Ae}{H:Hp}{x y:PV}{vs:List V}(r:Rs K mg ρ H [x,y] vs):∃v w,vs=[v,w]/\R K mg ρ H x v/\R K mg ρ H y w:=by
 obtain ⟨v,r',rfl,h,h'⟩:=r
 obtain ⟨w,rfl,h2⟩:=Rs.one h'
 exact ⟨v,w,rfl,h,h2⟩
def om:Al
 | [.tup xs],st=>.ok (.int xs.length) st
 | [.frl xs],st=>.ok (.int xs.length) st
 | [.str z],st=>if z.length<=lim then .ok (.int z.length) st else .stuck
 | [.ref n],st=>yp st n λxs=>.ok (.int xs.length) st
 | _,_=>.stuck
def KP:cV X (.builtin "len") om:=⟨_,Hv,fun ρ H st xs vs Q E s r h=>by
 match xs,r,h with
 | [.tup ys],r,h =>
  obtain ⟨v,rfl,p,ws,rfl,h1,h2⟩:=Rs.one r
  exact ⟨_,ws.length,rfl,.inr ⟨ws,h1,rfl⟩,by rw [<-h2.len];exact Out.now (x:=PV.int ys.length) h s _ rfl⟩
 | [.frl ys],r,h =>
  obtain ⟨v,rfl,p,ws,rfl,h1,h2⟩:=Rs.one r
  exact ⟨_,ws.length,rfl,.inl ⟨ws,h1.sq,rfl⟩,by rw [<-h2.len];exact Out.now (x:=PV.int ys.length) h s _ rfl⟩
 | [.str z],r,h =>
  obtain ⟨v,rfl,rfl⟩:=Rs.one r
  obtain ⟨c,h⟩:=Out.ifp h
  exact ⟨_,z.length,rfl,⟨yZ c,rfl⟩,h.now s _ rfl⟩
 | [.ref n],r,h =>
  obtain ⟨v,rfl,p,rfl,hp⟩:=Rs.one r
  obtain ⟨ys,e,h⟩:=jy h
  obtain ⟨ws,h1,h2⟩:=s.addr e hp
  exact ⟨_,ws.length,rfl,.inl ⟨ws,bo.of h1,rfl⟩,by rw [<-h2.len];exact h.now s _ rfl⟩
 | [],r,h=>exact h.elim
 | [.non],r,h=>exact h.elim
 | [.bl _],r,h=>exact h.elim
 | [.int _],r,h=>exact h.elim
 | [.ty _],r,h=>exact h.elim
 | [.fn _],r,h=>exact h.elim
 | [.kd _ _],r,h=>exact h.elim
 | [.exo _ _ _],r,h=>exact h.elim
 | x::y::r',r,h=>cases x<;>exact h.elim⟩
def qz:Al
 | [.tup xs],st=>.ok (.ref st.length) (st++[.lst xs])
 | [.frl xs],st=>.ok (.ref st.length) (st++[.lst xs])
 | [.ref n],st=>yp st n λxs=>.ok (.ref st.length) (st++[.lst xs])
 | _,_=>.stuck
def KQ:cV X (.type "list") qz:=⟨_,IA,fun ρ H st xs vs Q E s r h=>by
 match xs,r,h with
 | [.tup ys],r,h =>
  obtain ⟨v,rfl,p,ws,rfl,h1,h2⟩:=Rs.one r
  exact ⟨p,ws,rfl,.inr h1,λl hl=>Out.newList (xs:=ys) h s h2 hl⟩
 | [.frl ys],r,h =>
  obtain ⟨v,rfl,p,ws,rfl,h1,h2⟩:=Rs.one r
  exact ⟨p,ws,rfl,.inl h1.sq,λl hl=>Out.newList (xs:=ys) h s h2 hl⟩
 | [.ref n],r,h =>
  obtain ⟨v,rfl,p,rfl,hp⟩:=Rs.one r
  obtain ⟨ys,e,h⟩:=jy h
  obtain ⟨ws,h1,h2⟩:=s.addr e hp
  exact ⟨p,ws,rfl,.inl (bo.of h1),λl hl=>Out.newList (xs:=ys) h s h2 hl⟩
 | [],r,h=>exact h.elim
 | [.non],r,h=>exact h.elim
 | [.bl _],r,h=>exact h.elim
 | [.int _],r,h=>exact h.elim
 | [.str _],r,h=>exact h.elim
 | [.ty _],r,h=>exact h.elim
 | [.fn _],r,h=>exact h.elim
 | [.kd _ _],r,h=>exact h.elim
 | [.exo _ _ _],r,h=>exact h.elim
 | x::y::r',r,h=>cases x<;>exact h.elim⟩
def ja:Al
 | [.tup xs],st=>.ok (.tup xs) st
 | [.frl xs],st=>.ok (.tup xs) st
 | [.ref n],st=>yp st n λxs=>.ok (.tup xs) st
 | _,_=>.stuck
def jz:cV X (.type "tuple") ja:=⟨_,IB,fun ρ H st xs vs Q E s r h=>by
 match xs,r,h with
 | [.tup ys],r,h =>
  obtain ⟨v,rfl,p,ws,rfl,h1,h2⟩:=Rs.one r
  exact ⟨p,ws,rfl,.inr ⟨h1,Out.now (x:=PV.tup ys) h s _ ⟨p,ws,rfl,h1,h2⟩⟩⟩
 | [.frl ys],r,h =>
  obtain ⟨v,rfl,p,ws,rfl,h1,h2⟩:=Rs.one r
  exact ⟨p,ws,rfl,.inl ⟨h1.sq,λl hl=>h ρ _ (Ext.new hl) (s.new hl) _ (R.tup_of h2 hl)⟩⟩
 | [.ref n],r,h =>
  obtain ⟨v,rfl,p,rfl,hp⟩:=Rs.one r
  obtain ⟨ys,e,h⟩:=jy h
  obtain ⟨ws,h1,h2⟩:=s.addr e hp
  exact ⟨p,ws,rfl,.inl ⟨bo.of h1,λl hl=>h ρ _ (Ext.new hl) (s.new hl) _ (R.tup_of h2 hl)⟩⟩
 | [],r,h=>exact h.elim
 | [.non],r,h=>exact h.elim
 | [.bl _],r,h=>exact h.elim
 | [.int _],r,h=>exact h.elim
 | [.str _],r,h=>exact h.elim
 | [.ty _],r,h=>exact h.elim
 | [.fn _],r,h=>exact h.elim
 | [.kd _ _],r,h=>exact h.elim
 | [.exo _ _ _],r,h=>exact h.elim
 | x::y::r',r,h=>cases x<;>exact h.elim⟩
def gJ (T n:String):Option Bool :=
 if T = "int" then (if n = "int" then some true else if n = "bool" \/ n = "str" \/ n = "tuple" \/ n = "dict" \/ n = "list" then some false else none)
 else if T = "bool" then (if n = "int" \/ n = "bool" then some true else if n = "str" \/ n = "tuple" \/ n = "dict" \/ n = "list" then some false else none)
 else if T = "str" then (if n = "str" then some true else if n = "int" \/ n = "bool" \/ n = "tuple" \/ n = "dict" \/ n = "list" then some false else none)
 else if T = "tuple" then (if n = "tuple" then some true else if n = "int" \/ n = "bool" \/ n = "str" \/ n = "dict" \/ n = "list" then some false else none)
 else if T = "list" then (if n = "list" then some true else if n = "int" \/ n = "bool" \/ n = "str" \/ n = "dict" \/ n = "tuple" then some false else none)
 else if T = "dict" then (if n = "dict" then some true else if n = "int" \/ n = "bool" \/ n = "str" \/ n = "list" \/ n = "tuple" then some false else none)
 else if T = "NoneType" then (if n = "int" \/ n = "bool" \/ n = "str" \/ n = "list" \/ n = "tuple" \/ n = "dict" then some false else none)
 else none
def KR (K:Frag) {T n:String}{b:Bool}(h:gJ T n=some b):PySem.W.kitOne K (.type T) (.type n)=some b:=by
 unfold gJ at h
 split at h
 ·rename_i e;subst e
  split at h
  ·rename_i e;subst e;cases h;first|rfl|kernel_rfl
  ·split at h
   ·rename_i e;cases h;rcases e with e|e|e|e|e<;>subst e<;>first|rfl|kernel_rfl
   ·cases h
 ·split at h
  ·rename_i e;subst e
   split at h
   ·rename_i e;cases h;rcases e with e|e<;>subst e<;>first|rfl|kernel_rfl
   ·split at h
    ·rename_i e;cases h;rcases e with e|e|e|e<;>subst e<;>first|rfl|kernel_rfl
    ·cases h
  ·split at h
   ·rename_i e;subst e
    split at h
    ·rename_i e;subst e;cases h;first|rfl|kernel_rfl
    ·split at h
     ·rename_i e;cases h;rcases e with e|e|e|e|e<;>subst e<;>first|rfl|kernel_rfl
     ·cases h
   ·split at h
    ·rename_i e;subst e
     split at h
     ·rename_i e;subst e;cases h;first|rfl|kernel_rfl
     ·split at h
      ·rename_i e;cases h;rcases e with e|e|e|e|e<;>subst e<;>first|rfl|kernel_rfl
      ·cases h
    ·split at h
     ·rename_i e;subst e
      split at h
      ·rename_i e;subst e;cases h;first|rfl|kernel_rfl
      ·split at h
       ·rename_i e;cases h;rcases e with e|e|e|e|e<;>subst e<;>first|rfl|kernel_rfl
       ·cases h
     ·split at h
      ·rename_i e;subst e
       split at h
       ·rename_i e;subst e;cases h;first|rfl|kernel_rfl
       ·split at h
        ·rename_i e;cases h;rcases e with e|e|e|e|e<;>subst e<;>first|rfl|kernel_rfl
        ·cases h
      ·split at h
       ·rename_i e;subst e
        split at h
        ·rename_i e;cases h;rcases e with e|e|e|e|e|e<;>subst e<;>first|rfl|kernel_rfl
        ·cases h
       ·cases h
end
def gp (K:Frag) (mg:Ab) (m:Al):Sp:=λvs H Q E=>∃xs st ρ,Rs K mg ρ H xs vs/\bf K mg ρ H st/\Out K mg ρ H (m xs st) (gV K mg Q) E
section
variable (P:Program) (w:World) (K:Frag) (mg:Ab) (base:Heap)
def a7 (x:Str) (k:Nat) (m:Al):Prop:=∃f fd ps,mg x=some (.ref f)/\keepIn K (.ref f)=true/\Binds K fd ps []/\bp P w K mg base (bT P w) k f fd ps (gp K mg m)
def bx (c name:Str) (k:Nat) (m:Al):Prop:=∃C f fd ps,mg c=some (.ref C)/\eP K C/\Meth K C name f/\Binds K fd ps []/\bp P w K mg base (bT P w) k f fd ps (gp K mg m)
def gK (c:Str) (k:Nat) (m:Al):Prop:=∃C f fd ps,mg c=some (.ref C)/\Mk K C f/\Binds K fd ps []/\bp P w K mg base (bT P w) k f fd ps (gp K mg m)
def mD (c fld:Str):Prop:=∃C f fd,mg c=some (.ref C)/\e_ K C f/\bp P w K mg base (bT P w) 1 f fd ["self", fld] (Br C fld)/\Binds K fd ["self", fld] []
end
section
variable {X:Cx}{Er:XK}{K:Frag}{mg:Ab}{a b c e o:Expr}{es:List Expr}{pos p apos:Pos}{fa fb fc fo:Ai}{fs:Ah}{k:Nat}{x:Str}{m:Al}
def zQ (C:a7 X.prog X.w X.K X.mg X.base x k m) (hr:aW k X.A) (ht:jT X Er) (ha:MA X Er (e::es) fs) (hg:Gl X x:=by rfl) (bG:(x==("__debug__" : Str))=false:=by decide)
  (he:starEach (e::es) X.env=(false,eval e X.env)::starEach es X.env:=by rfl) (br:(backTo pos (starEach es X.env)).any (·.1)=false:=by rfl):ME X Er (.Call (.Name x p) (e::es) [] pos) (zt m fs):=by
 obtain ⟨f,fd,ps,hm,hk,hb,F⟩:=C
 exact PE.weak (HS F hr hg hm hk hb .nil (kM ht) ha bG he br) λU H Q ⟨env,st,ρ,re,rs,h⟩=>⟨env,st,ρ,re,rs,h.then λag H1 xs ae e1 s1 k vs rv=>by
  show gp X.K X.mg m (vs++[]) H1 Q Er
  rw [List.append_nil]
  exact ⟨xs,ae,ag,rv,s1,k⟩⟩
def uC (tab:Str->Option (Al)) (ff:Ai) (fs:Ah):Ai:=λenv st=>(ff env st).bind λf ae=>match f with
 | .fn x=>match tab x with
  | some m=>(fs env ae).bind m
  | none=>.stuck
 | _=>.stuck
def KS {tab:Str->Option (Al)}{ff:Ai}(ht:∀y m,tab y=some m->a7 X.prog X.w X.K X.mg X.base y k m) (hf:ME X Er (.Name x p) ff) (hr:aW k X.A) (hT:jT X Er) (ha:MA X Er (e::es) fs)
  (he:starEach (e::es) X.env=(false,eval e X.env)::starEach es X.env:=by rfl) (br:(backTo pos (starEach es X.env)).any (·.1)=false:=by rfl):ME X Er (.Call (.Name x p) (e::es) [] pos) (uC tab ff fs) :=
 PE.weak (JN (CX:=bT X.prog X.w) hf hr (kM hT) ha he br) λU H Q ⟨env,st,ρ,re,rs,h⟩=>⟨env,st,ρ,re,rs,h.then λag H1 f ae e1 s1 h1 v rv=>by
  cases f with
  | fn y =>
   cases hy:tab y with
   | none=>simp only [hy] at h1;exact h1.elim
   | some m =>
    simp only [hy] at h1
    obtain ⟨f,rfl,hm⟩:=rv
    obtain ⟨f',fd,ps,hm',hk,hb,F⟩:=ht y m hy
    rw [hm] at hm'
    cases hm'
    exact ⟨f,_,rfl,⟨fd,ps,F,hk,hb⟩,env,ae,ag,re.ext e1,s1,Out.then h1 λam H2 xs av e2 s2 h2 vs cL=>⟨xs,av,am,cL,s2,h2⟩⟩
  | _=>exact h1.elim⟩
theorem mE {ρ:Ae}{H:Hp}{f:Str}:∀{ks:Ad}{xs:An}{vs:List V}{x:PV},Rs K mg ρ H xs vs->(ks.zip xs).lookup f=some x->∃v,(ks.zip vs).lookup f=some v/\R K mg ρ H x v
 | [],_,_,_,_,h=>by simp at h
 | k::ks,[],_,_,_,h=>by simp at h
 | k::ks,y::xs,_,x,r,h=>by
  obtain ⟨v,r',rfl,h1,h2⟩:=r
  simp only [List.zip_cons_cons,wa] at h ⊢
  split at h
  ·cases h;exact ⟨v,rfl,h1⟩
  ·exact mE h2 h
theorem oo {f:Str}{β:Type}:∀{ks:Ad}{vs:List β},f∉ks->(ks.zip vs).lookup f=none
 | [],_,_=>by simp
 | k::ks,[],_=>by simp
 | k::ks,v::vs,h=>by
  simp only [yE,not_or] at h
  simp only [List.zip_cons_cons,wa]
  have:(f==k)=false:=by simpa using h.1
  rw [this]
  exact oo h.2
def BO (X:Cx) (name:Str) (k:Nat) (E:XK) (ta:TE) (t:TA):TE:=λU H Q=>ta U H λx H1=>∃a C dx fs f fd ps sp,x=.ref a/\H1 a=some (.ins C dx fs)/\fs.lookup name=none/\eP X.K C/\Meth X.K C name f/\Binds X.K fd ps []/\bp X.prog X.w X.K X.mg X.base (bT X.prog X.w) k f fd ps sp /\
 t U H1 λvs H2=>sp (x::vs) H2 Q E
def KU {pl:Sem Bool}{name:Str}{ta:TE}{t:TA}{E:XK}(he:PE X o ta) (hr:aW k X.A) (hx:Passes (bT X.prog X.w) X E) (ha:PA X (e::es) t)
  (bw:starEach (e::es) X.env=(false,eval e X.env)::starEach es X.env:=by rfl) (br:(backTo pos (starEach es X.env)).any (·.1)=false:=by rfl)
  (ht:eval (.Call (.Attribute o name apos) (e::es) [] pos) X.env=(do
   let ov <-eval o X.env
   standAt apos.atName
   let (f,first) <-holding [ov] (getMethod ov name pl)
   callWith pos f first (backTo pos (starEach (e::es) X.env)) (backToKw pos (keywordEach [] X.env))):=by rfl) :
  PE X (.Call (.Attribute o name apos) (e::es) [] pos) (BO X name k E ta t):=by
 intro pins s U H Q I h
 refine PySem.W.methodCall_KW (pl:=pl) (aU (he pins s U H _ I h) λu s1 ⟨x,H1,I1,rx,a,C,dx,fs,f,fd,ps,sp,ex,ea,l,c,hm,hb,F,q⟩=>?_) ht
 subst ex
 obtain rfl:u=Value.ref a:=rx
 refine sN I1 ea c hm l ?_
 refine PySem.W.callWith_K (first:=[.ref a]) (h₀:=X.base) I.ok.mod.kin hm.kp (aU (ha pos pins s1 U H1 _ I1 q) λus s2 ⟨vs,H2,I2,r,q2⟩=>⟨I2.kIn,?_⟩) bw br
 exact p7 (us:=.ref a::us) (vs:=.ref a::vs) F hr hb .nil hx I2 (.cons rfl r) (by rw [List.append_nil];exact q2)
def KW {pl:Sem Bool}{name:Str}{ta:TE}{E:XK}(he:PE X o ta) (hr:aW k X.A) (hx:Passes (bT X.prog X.w) X E)
  (ht:eval (.Call (.Attribute o name apos) [] [] pos) X.env=(do
   let ov <-eval o X.env
   standAt apos.atName
   let (f,first) <-holding [ov] (getMethod ov name pl)
   callWith pos f first (backTo pos (starEach [] X.env)) (backToKw pos (keywordEach [] X.env))):=by rfl) :
  PE X (.Call (.Attribute o name apos) [] [] pos) (BO X name k E ta x6):=by
 intro pins s U H Q I h
 refine PySem.W.methodCall_KW (pl:=pl) (aU (he pins s U H _ I h) λu s1 ⟨x,H1,I1,rx,a,C,dx,fs,f,fd,ps,sp,ex,ea,l,c,hm,hb,F,q⟩=>?_) ht
 subst ex
 obtain rfl:u=Value.ref a:=rx
 refine sN I1 ea c hm l ?_
 exact PySem.W.callWith_K0 (first:=[.ref a]) I1.kIn hm.kp (p7 (us:=[.ref a]) (vs:=[.ref a]) F hr hb .nil hx I1 (.cons rfl .nil) (by rw [List.append_nil];exact q))
def hU (name:Str) (tab:Str->Option (Al)) (o:PV) (st:ao) (k:Nat->(Al)->Res PV):Res PV:=match o with
 | .ref n=>jf st n λc ks _=>if name∈ks then .stuck else match tab c with
  | some m=>k n m
  | none=>.stuck
 | _=>.stuck
def yu (name:Str) (tab:Str->Option (Al)) (fo:Ai) (fs:Ah):Ai:=λenv st=>(fo env st).bind λo ae=>hU name tab o ae λn m=>(fs env ae).bind λys av=>m (.ref n::ys) av
def uD {name:Str}{tab:Str->Option (Al)}{o:PV}{st:ao}{kk:Nat->(Al)->Res PV}{ρ:Ae}{H:Hp}{good}(h:Out K mg ρ H (hU name tab o st kk) good Er) :
  ∃n c ks xs m,o=.ref n/\st[n]?=some (.ins c ks xs)/\name∉ks/\tab c=some m/\Out K mg ρ H (kk n m) good Er:=by
 cases o with
 | ref n =>
  obtain ⟨c,ks,xs,e,h⟩:=BG h
  split at h
  ·exact h.elim
  ·rename_i hn
   cases hc:tab c with
   | none=>rw [hc] at h;exact h.elim
   | some m=>rw [hc] at h;exact ⟨n,c,ks,xs,m,rfl,e,hn,hc,h⟩
 | _=>exact h.elim
def jb {pl:Sem Bool}{name:Str}{tab:Str->Option (Al)}(hT:∀c m,tab c=some m->bx X.prog X.w X.K X.mg X.base c name k m) (ho:ME X Er o fo) (hr:aW k X.A) (ht:jT X Er) (ha:MA X Er (e::es) fs)
  (bw:starEach (e::es) X.env=(false,eval e X.env)::starEach es X.env:=by rfl) (br:(backTo pos (starEach es X.env)).any (·.1)=false:=by rfl)
  (oq:eval (.Call (.Attribute o name apos) (e::es) [] pos) X.env=(do
   let ov <-eval o X.env
   standAt apos.atName
   let (f,first) <-holding [ov] (getMethod ov name pl)
   callWith pos f first (backTo pos (starEach (e::es) X.env)) (backToKw pos (keywordEach [] X.env))):=by rfl) :
  ME X Er (.Call (.Attribute o name apos) (e::es) [] pos) (yu name tab fo fs) :=
 PE.weak (KU (pl:=pl) ho hr (kM ht) ha bw br oq) λU H Q ⟨env,st,ρ,re,rs,h⟩=>⟨env,st,ρ,re,rs,h.then λag H1 x ae e1 s1 h1 v rv=>by
  obtain ⟨n,c,ks,xs,m,rfl,hn,hk,hc,h1⟩:=uD h1
  obtain ⟨C,f,fd,ps,hC,cl,hm,hb,F⟩:=hT c m hc
  obtain ⟨p,rfl,hp⟩:=rv
  obtain ⟨C',dx,vs,hC',hH,hR,hl⟩:=s1.addr hn hp
  rw [hC] at hC'
  cases hC'
  exact ⟨p,C,dx,_,f,fd,ps,_,rfl,hH,oo hk,cl,hm,hb,F,env,ae,ag,re.ext e1,s1,Out.then h1 λam H2 ys av e2 s2 h2 ws rws=>⟨.ref n::ys,av,am,⟨_,_,rfl,⟨p,rfl,e2.get hp⟩,rws⟩,s2,h2⟩⟩⟩
def BP {pl:Sem Bool}{name:Str}{tab:Str->Option (Al)}(hT:∀c m,tab c=some m->bx X.prog X.w X.K X.mg X.base c name k m) (ho:ME X Er o fo) (hr:aW k X.A) (ht:jT X Er)
  (oq:eval (.Call (.Attribute o name apos) [] [] pos) X.env=(do
   let ov <-eval o X.env
   standAt apos.atName
   let (f,first) <-holding [ov] (getMethod ov name pl)
   callWith pos f first (backTo pos (starEach [] X.env)) (backToKw pos (keywordEach [] X.env))):=by rfl) :
  ME X Er (.Call (.Attribute o name apos) [] [] pos) (yu name tab fo zj) :=
 PE.weak (KW (pl:=pl) ho hr (kM ht) oq) λU H Q ⟨env,st,ρ,re,rs,h⟩=>⟨env,st,ρ,re,rs,h.then λag H1 x ae e1 s1 h1 v rv=>by
  obtain ⟨n,c,ks,xs,m,rfl,hn,hk,hc,h1⟩:=uD h1
  obtain ⟨C,f,fd,ps,hC,cl,hm,hb,F⟩:=hT c m hc
  obtain ⟨p,rfl,hp⟩:=rv
  obtain ⟨C',dx,vs,hC',hH,hR,hl⟩:=s1.addr hn hp
  rw [hC] at hC'
  cases hC'
  exact ⟨p,C,dx,_,f,fd,ps,_,rfl,hH,oo hk,cl,hm,hb,F,⟨[.ref n],ae,ag,⟨_,_,rfl,⟨p,rfl,hp⟩,rfl⟩,s1,h1⟩⟩⟩
def bJ (c:Str) (m:Al) (ys:An):Mo PV:=λst=>(m (.ref st.length::ys) (st++[.ins c [] []])).bind λr av=>if fI r=true then .ok (.ref st.length) av else .stuck
def KY {x:PV}(h:fI x=true):x=.non:=by cases x<;>first|rfl|cases h
def BQ {cn:Str}{C f:Addr}{ρ:Ae}{H:Hp}{st:ao}{ys:An}{vs:List V}{Q:VK}(hC:mg cn=some (.ref C)) (s:bf K mg ρ H st) (r:Rs K mg ρ H ys vs) (h:Out K mg ρ H (bJ cn m ys st) (gV K mg Q) Er) :
  ∀x dx,H x=none->H dx=none->dx≠x->gp K mg m (.ref x::vs) (upd (upd H dx (.own x)) x (.ins C dx [])) (λv H2=>v=.non/\Q (.ref x) H2) Er:=λx dx hx mF ne=>by
 have qA:upd H dx (.own x) x=none:=by rw [zW (yD ne)];exact hx
 have s1:=s.new (o:=.own x) mF
 have e1:Ext ρ H ρ (upd H dx (.own x)):=Ext.new mF
 have e2:Ext ρ H (ρ++[x]) (upd (upd H dx (.own x)) x (.ins C dx [])):=e1.trans (Ext.push qA)
 have s2:bf K mg (ρ++[x]) (upd (upd H dx (.own x)) x (.ins C dx [])) (st++[.ins cn [] []]):=s1.push qA ⟨C,dx,[],hC,yx,rfl,rfl⟩
 have gx:(ρ++[x])[st.length]?=some x:=by rw [<-s.len];simp
 refine ⟨.ref st.length::ys,_,ρ++[x],⟨_,_,rfl,⟨x,rfl,gx⟩,Rs.ext e2 ys r⟩,s2,Out.then (Out.ext h e2) λal H3 r3 a_ e3 s3 h3 v rv=>?_⟩
 obtain ⟨hn,h3⟩:=Out.ifp h3
 obtain rfl:=KY hn
 exact ⟨rv,h3.now s3 _ ⟨x,rfl,e3.get gx⟩⟩
def eh {cn:Str} (C:gK X.prog X.w X.K X.mg X.base cn k m) (hr:aW (k+1) X.A) (ht:jT X Er) (ha:MA X Er (e::es) fs) (hg:Gl X cn:=by rfl) (bG:(cn==("__debug__" : Str))=false:=by decide)
  (he:starEach (e::es) X.env=(false,eval e X.env)::starEach es X.env:=by rfl) (br:(backTo pos (starEach es X.env)).any (·.1)=false:=by rfl):ME X Er (.Call (.Name cn p) (e::es) [] pos) (zt (bJ cn m) fs):=by
 obtain ⟨C,f,fd,ps,hm,M,hb,F⟩:=C
 exact PE.weak (HU M F hr hg hm hb .nil (kM ht) ha bG he br) λU H Q ⟨env,st,ρ,re,rs,h⟩=>⟨env,st,ρ,re,rs,h.then λag H1 xs ae e1 s1 k vs rv x dx hx mF ne=>by
  rw [List.append_nil]
  exact BQ (f:=f) hm s1 rv k x dx hx mF ne⟩
def aM (f:Str) (ins exc:Str->Bool):PV->Mo PV
 | .ref n,st=>jf st n λc ks xs=>if ins c=true then bP ((ks.zip xs).lookup f) st else .stuck
 | .exo c ks xs,st=>if exc c=true then bP ((ks.zip xs).lookup f) st else .stuck
 | _,_=>.stuck
structure FldF (K:Frag) (mg:Ab) (f:Str) (ins exc:Str->Bool):Prop where
 i:∀c,ins c=true->∃C,mg c=some (.ref C)/\eP K C/\cY K C f
 x:∀c,exc c=true->∃C,mg c=some (.ref C)/\gn K C/\hasDictIn K C=true/\findIn K (.ref C) f=some none
def KZ (K:Frag) (ta:TE) (f:Str):TE:=λU H Q=>ta U H λx H1=>(∃a C dx fs v,x=.ref a/\H1 a=some (.ins C dx fs)/\eP K C/\cY K C f/\fs.lookup f=some v/\Q v H1) \/
 ∃a C d fs v,x=.ref a/\H1 a=some (fF C (some d) a)/\H1 d=some (.xd fs)/\gn K C/\hasDictIn K C=true/\findIn K (.ref C) f=some none/\fs.lookup f=some v/\Q v H1
def K0 {f:Str}{ta:TE}(he:PE X e ta) (hb:attributeBase e f X.env (eval e X.env)=eval e X.env):PE X (.Attribute e f pos) (KZ X.K ta f):=by
 intro pins s U H Q I h
 refine HE hb (aU (he pins s U H _ I h) λu s1 ⟨x,H1,I1,rx,h1⟩=>?_)
 rcases h1 with ⟨a,C,dx,fs,v,ex,ea,c,n,l,q⟩|⟨a,C,dx,fs,v,ex,ea,ed,g,hh,no,l,q⟩
 ·subst ex
  obtain rfl:u=Value.ref a:=rx
  exact HC I1 ea c n l λu' s2 I2 ru=>⟨v,H1,I2,ru,q⟩
 ·subst ex
  obtain rfl:u=Value.ref a:=rx
  exact JV I1 ea ed g hh no l λu' s2 I2 ru=>⟨v,H1,I2,ru,q⟩
def yA {f:Str}{ins exc:Str->Bool}(F:FldF X.K X.mg f ins exc) (he:ME X Er e fa) (hb:attributeBase e f X.env (eval e X.env)=eval e X.env:=by rfl):ME X Er (.Attribute e f pos) (zX (aM f ins exc) fa) :=
 PE.weak (K0 he hb) λU H Q ⟨env,st,ρ,re,rs,h⟩=>⟨env,st,ρ,re,rs,h.then λag H1 x ae e1 s1 h1 v rv=>by
  cases x with
  | ref n =>
   obtain ⟨c,ks,xs,hn,h1⟩:=BG h1
   obtain ⟨hc,h1⟩:=Out.ifp h1
   obtain ⟨y,hy,h1⟩:=iM h1
   obtain ⟨p,rfl,hp⟩:=rv
   obtain ⟨C',dx,vs,hC',hH,hR,hl⟩:=s1.addr hn hp
   obtain ⟨C,hC,cl,na⟩:=F.i c hc
   rw [hC] at hC'
   cases hC'
   obtain ⟨v,hv,rv⟩:=mE hR hy
   exact .inl ⟨p,_,dx,_,v,rfl,hH,cl,na,hv,h1.now s1 _ rv⟩
  | exo c ks xs =>
   obtain ⟨hc,h1⟩:=Out.ifp h1
   obtain ⟨y,hy,h1⟩:=iM h1
   obtain ⟨a,C',d,vs,rfl,hC',hH,hd,hR,hl⟩:=rv
   obtain ⟨C,hC,g,hh,no⟩:=F.x c hc
   rw [hC] at hC'
   cases hC'
   obtain ⟨v,hv,rv⟩:=mE hR hy
   exact .inr ⟨a,_,d,_,v,rfl,hH,hd,g,hh,no,hv,h1.now s1 _ rv⟩
  | _=>exact h1.elim⟩
def kQ:Option SO->Option (String ⊕ (Bool×Str))
 | some (.lst _)=>some (.inl "list")
 | some (.dic _ _)=>some (.inl "dict")
 | some (.ins c _ _)=>some (.inr (false,c))
 | some (.fdi _ _)=>none
 | some (.dit _ _)=>none
 | none=>none
def iP (st:ao):PV->Option (String ⊕ (Bool×Str))
 | .non=>some (.inl "NoneType")
 | .bl _=>some (.inl "bool")
 | .int _=>some (.inl "int")
 | .str _=>some (.inl "str")
 | .tup _=>some (.inl "tuple")
 | .ref n=>kQ st[n]?
 | .exo c _ _=>some (.inr (true,c))
 | _=>none
def fh (o:Option Bool):Mo PV:=λst=>match o with
 | some b=>.ok (.bl b) st
 | none=>.stuck
def qB {ρ:Ae}{H:Hp}{o:Option Bool}{st:ao}{good}(h:Out K mg ρ H (fh o st) good Er):∃b,o=some b/\Out K mg ρ H (.ok (.bl b) st) good Er:=by
 cases o with
 | some x=>exact ⟨x,rfl,h⟩
 | none=>exact h.elim
structure IsT where
 isx:Str->Bool
 sub:Str->Str->Option Bool
 subT:Str->String->Option Bool
 tyC:String->Str->Option Bool
def r8 (t:IsT) (st:ao):PV->Option (String ⊕ (Bool×Str))->Mo PV
 | .ty n,some (.inl T),st=>fh (gJ T n) st
 | .ty n,some (.inr (f,c)),st=>if t.isx c=f then fh (t.subT c n) st else .stuck
 | .fn B,some (.inl T),st=>fh (t.tyC T B) st
 | .fn B,some (.inr (f,c)),st=>if t.isx c=f then fh (t.sub c B) st else .stuck
 | _,_,_=>.stuck
def wD (t:IsT):Al
 | [x,y],st=>r8 t st y (iP st x) st
 | _,_=>.stuck
structure r9 (K:Frag) (C:Addr):Prop where
 cl:eP K C
 ha:findIn K (.ref C) "__class__" = some (some (.builtin "object.__class__"))
 hn:specialIn K (.builtin "object.__class__") "__get__" = some (some (.builtin "getset_descriptor.__get__"))
 tk:takesIn K (.builtin "object.__class__")=some true
 hm:mroIn K C (.type "object")=some true
structure IsF (K:Frag) (mg:Ab) (t:IsT):Prop where
 s:∀c B b,t.sub c B=some b->∃C D,mg c=some (.ref C)/\mg B=some (.ref D)/\kitOne K (.ref C) (.ref D)=some b
 tt:∀c n b,t.subT c n=some b->∃C,mg c=some (.ref C)/\kitOne K (.ref C) (.type n)=some b
 u:∀T B b,t.tyC T B=some b->∃D,mg B=some (.ref D)/\kitOne K (.type T) (.ref D)=some b
 x:∀c C,t.isx c=true->mg c=some (.ref C)->((∃B b,t.sub c B=some b)\/∃n b,t.subT c n=some b)->lL K C
 i:∀c C,t.isx c=false->mg c=some (.ref C)->((∃B b,t.sub c B=some b)\/∃n b,t.subT c n=some b)->r9 K C
inductive kR (K:Frag) (H:Hp):V->Value->Prop where
 | of {v:V} {t:Value} (h:df K H v t):kR K H v t
 | tup {a:Addr} {vs:List V} (h:bg K H a vs):kR K H (.ref a) (.type "tuple")
 | exc {a C d:Addr} {fs:List (Str×V)} (ha:H a=some (fF C (some d) a)) (hd:H d=some (.xd fs)) (k:lL K C):kR K H (.ref a) (.ref C)
def K7 {pins:Ac}{U:L2.St}{H:Hp}{s:Shared}{v:V}{u t c:Value}{b:Bool}{Q:Aa}{A:Around}{E:Aa}(I:Inv X pins U H s) (r:RelV v u) (ty:kR X.K H v t) (e:kitOne X.K t c=some b) (h:∀tk,Q (.bool b) { s with toks:=tk }) :
  wpAny (model X.prog X.w) A (call (.builtin "isinstance") [u,c]) Q E s:=by
 cases ty with
 | of ty=>exact HG I r ty e h
 | @tup a vs hq =>
  obtain rfl:u=Value.ref a:=r
  obtain ⟨its,_,p,_⟩:=I.tuple hq
  obtain ⟨o,h1,h2,_⟩:=p
  exact PySem.W.kia_one PySem.W.kitx_tuple I.kIn ⟨o,h1,h2⟩ e (λz=>nomatch z) h
 | @exc a C d fs ha hd k =>
  obtain rfl:u=Value.ref a:=r
  exact JW I ha hd k e h
def K8:bQ X (.builtin "isinstance") (λxs H Q=>∃v w t c b,xs=[v,w]/\kR X.K H v t/\RelV w c/\(∀c',RelV w c'->c'=c)/\kitOne X.K t c=some b/\Q (.bl b) H):=by
 intro pins s U H xs us Q I r h
 obtain ⟨v,w,t,c,b,rfl,ty,rw,un,e,q⟩:=h
 obtain ⟨u,w',rfl,ru,c9⟩:=xT r
 obtain rfl:=un w' c9
 exact K7 I ru ty e λtk=>⟨.bl b,H,I.tok _,rfl,q⟩
def BR {ρ:Ae}{H:Hp}{st:ao}{x:PV}{v:V}{T:String}(s:bf K mg ρ H st) (r:R K mg ρ H x v) (h:iP st x=some (.inl T)):kR K H v (.type T):=by
 cases x with
 | non=>cases h;cases r;exact .of .non
 | bl b=>cases h;cases r;exact .of (.bl b)
 | int i=>cases h;cases r;exact .of (.int i)
 | str z=>cases h;cases r;exact .of (.str z)
 | tup xs=>cases h;obtain ⟨a,vs,rfl,h1,_⟩:=r;exact .tup h1
 | frl xs=>cases h
 | ref n =>
  obtain ⟨a,rfl,ha⟩:=r
  have h:kQ st[n]?=some (.inl T):=h
  cases e:st[n]? with
  | none=>rw [e] at h;cases h
  | some so =>
   rw [e] at h
   cases so with
   | lst xs=>cases h;obtain ⟨vs,h1,_⟩:=s.addr e ha;exact .of (.lst h1)
   | dic ks xs=>cases h;obtain ⟨vs,h1,_⟩:=s.addr e ha;exact .of (.dK h1)
   | ins c ks xs=>cases h
   | fdi ks xs=>cases h
   | dit ks xs=>cases h
 | ty _=>cases h
 | fn _=>cases h
 | kd _ _=>cases h
 | exo _ _ _=>cases h
def BS {ρ:Ae}{H:Hp}{st:ao}{x:PV}{v:V}{f:Bool}{c:Str}(hx:∀C,f=true->mg c=some (.ref C)->lL K C) (hi:∀C,f=false->mg c=some (.ref C)->r9 K C) (s:bf K mg ρ H st) (r:R K mg ρ H x v) (h:iP st x=some (.inr (f,c))):∃C,mg c=some (.ref C)/\kR K H v (.ref C):=by
 cases x with
 | ref n =>
  obtain ⟨a,rfl,ha⟩:=r
  have h:kQ st[n]?=some (.inr (f,c)):=h
  cases e:st[n]? with
  | none=>rw [e] at h;cases h
  | some so =>
   rw [e] at h
   cases so with
   | lst xs=>cases h
   | dic ks xs=>cases h
   | fdi ks xs=>cases h
   | dit ks xs=>cases h
   | ins c' ks xs =>
    cases h
    obtain ⟨C,dx,vs,hC,hH,_⟩:=s.addr e ha
    have q:=hi C rfl hC
    exact ⟨C,hC,.of (.ins hH q.cl q.ha q.hn q.tk q.hm)⟩
 | exo c' ks xs =>
  cases h
  obtain ⟨a,C,d,vs,rfl,hC,hH,hd,_⟩:=r
  exact ⟨C,hC,.exc hH hd (hx C rfl hC)⟩
 | non=>cases h
 | bl _=>cases h
 | int _=>cases h
 | str _=>cases h
 | tup _=>cases h
 | frl _=>cases h
 | ty _=>cases h
 | fn _=>cases h
 | kd _ _=>cases h
def K9 {t:IsT} (F:IsF X.K X.mg t):cV X (.builtin "isinstance") (wD t):=⟨_,K8,fun ρ H st xs vs Q E s r h=>by
 match xs,r,h with
 | [x,y],r,h =>
  obtain ⟨v,w,rfl,rx,ry⟩:=Rs.two r
  have h:Out X.K X.mg ρ H (r8 t st y (iP st x) st) (gV X.K X.mg Q) E:=h
  cases hc:iP st x with
  | none=>rw [hc] at h;cases y<;>exact h.elim
  | some cc =>
   rw [hc] at h
   cases cc with
   | inl T =>
    cases y with
    | ty n =>
     cases ry
     obtain ⟨b,hb,h⟩:=qB h
     exact ⟨v,_,_,_,b,rfl,BR s rx hc,rfl,λc' h=>h,KR X.K hb,h.now s _ rfl⟩
    | fn B =>
     obtain ⟨D,rfl,hD⟩:=ry
     obtain ⟨b,hb,h⟩:=qB h
     obtain ⟨D',hD',k⟩:=F.u T B b hb
     rw [hD] at hD'
     cases hD'
     exact ⟨v,_,_,_,b,rfl,BR s rx hc,rfl,λc' h=>h,k,h.now s _ rfl⟩
    | _=>exact h.elim
   | inr fc =>
    obtain ⟨f,c⟩:=fc
    cases y with
    | ty n =>
     cases ry
     obtain ⟨hf,h⟩:=Out.ifp h
     obtain ⟨b,hb,h⟩:=qB h
     obtain ⟨C,hC,k⟩:=F.tt c n b hb
     obtain ⟨C',hC',ty⟩:=BS (λC e hC=>F.x c C (hf.trans e) hC (.inr ⟨n,b,hb⟩)) (λC e hC=>F.i c C (hf.trans e) hC (.inr ⟨n,b,hb⟩)) s rx hc
     rw [hC] at hC'
     cases hC'
     exact ⟨v,_,_,_,b,rfl,ty,rfl,λc' h=>h,k,h.now s _ rfl⟩
    | fn B =>
     obtain ⟨D,rfl,hD⟩:=ry
     obtain ⟨hf,h⟩:=Out.ifp h
     obtain ⟨b,hb,h⟩:=qB h
     obtain ⟨C,D',hC,hD',k⟩:=F.s c B b hb
     rw [hD] at hD'
     cases hD'
     obtain ⟨C',hC',ty⟩:=BS (λC e hC=>F.x c C (hf.trans e) hC (.inl ⟨B,b,hb⟩)) (λC e hC=>F.i c C (hf.trans e) hC (.inl ⟨B,b,hb⟩)) s rx hc
     rw [hC] at hC'
     cases hC'
     exact ⟨v,_,_,_,b,rfl,ty,rfl,λc' h=>h,k,h.now s _ rfl⟩
    | _=>exact h.elim
 | [],r,h=>exact h.elim
 | [_],r,h=>exact h.elim
 | _::_::_::_,r,h=>exact h.elim⟩
end
section
variable {X:Cx}{Er:XK}{K:Frag}{mg:Ab}{a b c e o:Expr}{es:List Expr}{st:Stmt}{ez:List Stmt}{pos p apos pos':Pos}{fa fb fc fo:Ai}{fs:Ah}{k:Nat}{x:Str}{m:Al}
variable {g g' gb:Aj}{ga:Ak}
def Out.fl {ρ:Ae}{H:Hp}{st:ao}{D:Ends}{fl:Fl}{E:XK}(h:Out K mg ρ H (.ok fl st) (gS K mg D) E) (s:bf K mg ρ H st):gS K mg D ρ H fl st:=h.now s
def z0:Aj:=λenv st=>.ok (.nx env) st
def fX (g:Aj):Fl->Mo Fl
 | .nx env,st=>g env st
 | fl,st=>.ok fl st
def zA (g g':Aj):Aj:=λenv st=>(g env st).bind (fX g')
def yg:dW X Er [] z0:=bY.weak Gw λD U H ⟨env,st,ρ,re,rs,h⟩=>h.now rs U re
def zC (h1:MS X Er st g) (h2:dW X Er ez g'):dW X Er (st::ez) (zA g g') :=
 bY.weak (Gx h1 h2) λD U H ⟨env,st,ρ,re,rs,h⟩=>⟨env,st,ρ,re,rs,h.then λag H1 fl ae e1 s1 h1=>by
  cases fl with
  | nx bX=>exact λau K_=>⟨bX,ae,ag,K_,s1,h1⟩
  | rt v=>exact Out.fl (D:=D) (fl:=.rt v) (E:=Er) h1 s1
  | bk bX=>exact Out.fl (D:=D) (fl:=.bk bX) (E:=Er) h1 s1
  | ct bX=>exact Out.fl (D:=D) (fl:=.ct bX) (E:=Er) h1 s1⟩
def zB (h1:MS X Er st g):dW X Er [st] g:=nq h1
def zO (i:Nat) (f:Ai):Aj:=λenv st=>(f env st).bind λx ae=>.ok (.nx (env.set i (some x))) ae
def zT (i:Nat) {x:Str}(he:ME X Er e fa) (hN:X.N.Nodup) (hi:X.N[i]?=some x:=by rfl) (hx:Loc X.env.scope x:=by first|exact Or.inl rfl|exact Or.inr rfl) (hs:swapsWith e (some (.Name x pos')) pos.line X.env=pure false:=by rfl)
  (hf:X.fn x=true\/X.env.scope.names.lookup x=some .local:=by first|exact .inl rfl|exact .inr rfl|assumption):MS X Er (.Assign [.Name x pos'] e pos) (zO i fa) :=
 PS.weak (GI hN hi hx he hs hf) λD U H ⟨env,st,ρ,re,rs,h⟩=>⟨env,st,ρ,re,rs,h.then λag H1 x ae e1 s1 h1 v rv=>h1.now s1 _ ((re.ext e1).set i rv)⟩
def yX (f:Ai):Aj:=λenv st=>(f env st).bind λ_ ae=>.ok (.nx env) ae
def jG (he:ME X Er e fa) (hs:swapsWith e none pos.line X.env=pure false:=by rfl):MS X Er (.Expr e pos) (yX fa) :=
 PS.weak (Gz he hs) λD U H ⟨env,st,ρ,re,rs,h⟩=>⟨env,st,ρ,re,rs,h.then λag H1 x ae e1 s1 h1 v rv=>h1.now s1 _ (re.ext e1)⟩
def zH (f:Ai):Aj:=λenv st=>(f env st).bind λx ae=>.ok (.rt x) ae
def zI (he:ME X Er e fa):MS X Er (.Return (some e) pos) (zH fa) :=
 PS.weak (GB he) λD U H ⟨env,st,ρ,re,rs,h⟩=>⟨env,st,ρ,re,rs,h.then λag H1 x ae e1 s1 h1 v rv=>h1.now s1 _ rv⟩
def zV (t:Ak) (g g':Aj):Aj:=λenv st=>(t env st).bind λc ae=>if c=true then g env ae else g' env ae
def ye {A B:List Stmt}(hc:MT X Er c ga) (ha:dW X Er A g) (hb:dW X Er B g'):MS X Er (.If c A B pos) (zV ga g g') :=
 PS.weak (GD hc ha hb) λD U H ⟨env,st,ρ,re,rs,h⟩=>⟨env,st,ρ,re,rs,h.then λag H1 k ae e1 s1 h1=>by
  cases k with
  | true=>exact ⟨env,ae,ag,re.ext e1,s1,h1⟩
  | false=>exact ⟨env,ae,ag,re.ext e1,s1,h1⟩⟩
def gq:Am
 | .int i,.int j,st=>.ok (.int (i+j)) st
 | _,_,_=>.stuck
def mG (i:Nat) (op:Am) (f:Ai):Aj:=λenv st=>(zd i env st).bind λx dj=>(f env dj).bind λy ae=>(op x y ae).bind λz av=>.ok (.nx (env.set i (some z))) av
def sd (X:Cx) (o:Operator) (op:Am):Prop:=∃r,sx X o r/\dh X.K X.mg r op
def uE:sd X .Add gq:=⟨_,GO,by
 intro ρ H st x y v w Q E s rx ry h
 cases x with
 | int i =>
  cases y with
  | int j=>cases rx;cases ry;exact ⟨i,j,rfl,rfl,Out.now (x:=PV.int (i+j)) h s _ rfl⟩
  | _=>exact h.elim
 | _=>exact h.elim⟩
def uF (i:Nat) {x:Str}{o:Operator}{op:Am}(ho:sd X o op) (he:ME X Er e fa) (hN:X.N.Nodup) (hi:X.N[i]?=some x:=by rfl) (hx:Loc X.env.scope x:=by first|exact Or.inl rfl|exact Or.inr rfl)
  (hf:X.fn x=true\/X.env.scope.names.lookup x=some .local:=by first|exact .inl rfl|exact .inr rfl|assumption):MS X Er (.AugAssign (.Name x pos') o e pos) (mG i op fa):=by
 obtain ⟨r,h1,h2⟩:=ho
 refine PS.weak (GK hN hi hx he h1 hf) λD U H ⟨env,st,ρ,re,rs,h⟩=>?_
 unfold mG zd at h
 cases hx:env[i]? with
 | none=>simp only [hx] at h;exact h.elim
 | some q =>
  cases q with
  | none=>simp only [hx] at h;exact h.elim
  | some x0 =>
   simp only [hx] at h
   obtain ⟨v,hv,rv⟩:=re.at_ i x0 hx
   exact ⟨v,hv,env,st,ρ,re,rs,Out.then (f:=λy ae=>(op x0 y ae).bind λz av=>Res.ok (Fl.nx (env.set i (some z))) av) (good:=gS X.K X.mg D) h λag H1 y ae e1 s1 k1 w rw=>h2 ag H1 ae x0 y v w _ Er s1 (R.ext e1 x0 rv) rw (k1.then λam H2 z av e2 s2 k2 u ru=>k2.now s2 _ (((re.ext e1).ext e2).set i ru))⟩
def putK (f:Str) (x:PV):List Str->List PV->List Str×List PV
 | k::ks,y::ys=>if k=f then (k::ks,x::ys) else (k::(putK f x ks ys).1,y::(putK f x ks ys).2)
 | _,_=>([f],[x])
theorem BU {ρ:Ae}{H:Hp}{f:Str}{x:PV}{v:V}(r:R K mg ρ H x v):∀{ks:Ad}{xs:An}{vs:List V},ks.length=vs.length->Rs K mg ρ H xs vs->∃ws,cf f v (ks.zip vs)=(putK f x ks xs).1.zip ws/\Rs K mg ρ H (putK f x ks xs).2 ws/\(putK f x ks xs).1.length=ws.length
 | [],xs,vs,hl,h=>by
  have:vs=[]:=by cases vs with|nil=>rfl|cons=>simp at hl
  subst this
  have:xs=[]:=by cases xs with|nil=>rfl|cons=>obtain ⟨_,_,e,_⟩:=h;cases e
  subst this
  exact ⟨[v],rfl,⟨v,[],rfl,r,rfl⟩,rfl⟩
 | k::ks,xs,vs,hl,h=>by
  cases vs with
  | nil=>simp at hl
  | cons v0 vs =>
   cases xs with
   | nil=>cases h
   | cons y ys =>
    obtain ⟨Wb,r',e,h1,h2⟩:=h
    cases e
    simp only [putK,List.zip_cons_cons,cf]
    by_cases hk:k=f
    ·rw [zu hk,zu hk]
     exact ⟨v::vs,rfl,⟨v,vs,rfl,r,h2⟩,by simpa using hl⟩
    ·rw [zF hk,zF hk]
     obtain ⟨ws,e1,e2,e3⟩:=BU r (by simpa using hl) h2
     exact ⟨v0::ws,by rw [e1];rfl,⟨v0,ws,rfl,h1,e2⟩,by simp [e3]⟩
def putAt (f:Str) (ins:Str->Bool) (x:PV):PV->Mo Unit
 | .ref n,st=>jf st n λc ks xs=>if ins c=true/\ks.length<1000 then .ok () (st.set n (.ins c (putK f x ks xs).1 (putK f x ks xs).2)) else .stuck
 | _,_=>.stuck
def sFld (f:Str) (ins:Str->Bool) (fo fv:Ai):Aj:=λenv st=>(fv env st).bind λx ae=>(fo env ae).bind λo av=>(putAt f ins x o av).bind λ_ a_=>.ok (.nx env) a_
theorem j6 {f:Str}{ins exc:Str->Bool}(F:FldF X.K X.mg f ins exc) (ho:ME X Er o fo) (he:ME X Er e fa) (hs:swapsWith e (some (.Attribute o f pos')) pos.line X.env=pure false:=by rfl):MS X Er (.Assign [.Attribute o f pos'] e pos) (sFld f ins fo fa) :=
 PS.weak (HF ho he hs) λD U H ⟨env,st,ρ,re,rs,h⟩=>⟨env,st,ρ,re,rs,h.then λag H1 x ae e1 s1 h1 v rv=>⟨env,ae,ag,re.ext e1,s1,h1.then λam H2 y av e2 s2 h2 w rw=>by
  cases y with
  | ref n =>
   cases hn:av[n]? with
   | none=>simp only [putAt,jf,hn] at h2;exact h2.elim
   | some so =>
    cases so with
    | lst _=>simp only [putAt,jf,hn] at h2;exact h2.elim
    | dic _ _=>simp only [putAt,jf,hn] at h2;exact h2.elim
    | fdi _ _=>simp only [putAt,jf,hn] at h2;exact h2.elim
    | dit _ _=>simp only [putAt,jf,hn] at h2;exact h2.elim
    | ins c ks xs =>
     simp only [putAt,jf,hn] at h2
     by_cases hc:ins c=true/\ks.length<1000
     ·rw [zu hc] at h2
      obtain ⟨p,rfl,hp⟩:=rw
      obtain ⟨C',dx,vs,hC',hH,hR,hl⟩:=s2.addr hn hp
      obtain ⟨C,hC,cl,na⟩:=F.i c hc.1
      rw [hC] at hC'
      cases hC'
      obtain ⟨ws,k1,k2,k3⟩:=BU (f:=f) (R.ext e2 x rv) hl hR
      refine ⟨p,_,dx,_,rfl,hH,cl,na,?_,?_⟩
      ·rw [List.length_zip,<-hl];have:=hc.2;omega
      ·have ew:Ext am H2 am (upd H2 p (.ins C' dx (cf f v (ks.zip vs)))):=Ext.write hH rfl
       exact h2 am _ ew (s2.write hp ew ⟨_,dx,ws,hC,by rw [yx,k1],Rs.ext ew _ k2,k3⟩) U (((re.ext e1).ext e2).ext ew)
     ·rw [zF hc] at h2;exact h2.elim
  | _=>exact h2.elim⟩⟩
def MG (X:Cx) (Er:XK) (e:Expr) (g:PV->zc->Option zc):Prop:=PG X e λv U H Q=>∃x env cx ρ,R X.K X.mg ρ H x v/\bj X.K X.mg ρ H env U/\g x env=some cx/\∀ai,bj X.K X.mg ρ H cx ai->Q ai H
def PG.weak {t t':TG}(h:PG X e t) (w:∀v U H Q,t' v U H Q->t v U H Q):PG X e t':=λpins s U H v u Q I r q=>h pins s U H v u Q I r (w v U H Q q)
def gN (i:Nat):PV->zc->Option zc:=λx env=>some (env.set i (some x))
def wq (i:Nat) {x:Str}(hN:X.N.Nodup) (hi:X.N[i]?=some x:=by rfl) (hx:Loc X.env.scope x:=by first|exact Or.inl rfl|exact Or.inr rfl) (hf:X.fn x=true\/X.env.scope.names.lookup x=some .local:=by first|exact .inl rfl|exact .inr rfl|assumption):MG X Er (.Name x pos) (gN i) :=
 PG.weak (wB hN hi hx hf) λv U H Q ⟨x,env,cx,ρ,rx,re,hg,q⟩=>by
  cases hg
  exact q _ (re.set i rx)
def g2 (i j:Nat):PV->zc->Option zc
 | .tup [x,y],env=>some ((env.set i (some x)).set j (some y))
 | _,_=>none
def Lb {i j:Nat}{x:PV}{env cx:zc}(h:g2 i j x env=some cx):∃y z,x=.tup [y,z]/\cx=(env.set i (some y)).set j (some z):=by
 unfold g2 at h
 split at h
 ·cases h;exact ⟨_,_,rfl,rfl⟩
 ·cases h
def qC (i j:Nat) {x y:Str}{kt:Nat}{px py:Pos}(hc:X.calm=true) (hN:X.N.Nodup) (hi:X.N[i]?=some x:=by rfl) (hj:X.N[j]?=some y:=by rfl) (hx:Loc X.env.scope x:=by first|exact Or.inl rfl|exact Or.inr rfl) (hy:Loc X.env.scope y:=by first|exact Or.inl rfl|exact Or.inr rfl)
  (hf:X.fn x=true\/X.env.scope.names.lookup x=some .local:=by first|exact .inl rfl|exact .inr rfl|assumption) (Lc:X.fn y=true\/X.env.scope.names.lookup y=some .local:=by first|exact .inl rfl|exact .inr rfl|assumption):MG X Er (.Tuple [.Name x px,.Name y py] kt pos) (g2 i j) :=
 PG.weak (sD (n:=2) hc (l_ (wB hN hi hx hf) (l_ (wB hN hj hy Lc) sA))) λv U H Q ⟨x,env,cx,ρ,rx,re,hg,q⟩=>by
  obtain ⟨y,z,rfl,rfl⟩:=Lb hg
  obtain ⟨a,vs,rfl,h1,h2⟩:=rx
  obtain ⟨u,w,rfl,r1,r2⟩:=Rs.two h2
  exact ⟨a,_,rfl,h1,rfl,u,[w],rfl,w,[],rfl,rfl,q _ ((re.set i r1).set j r2)⟩
def g3 (i j k:Nat):PV->zc->Option zc
 | .tup [x,y,z],env=>some (((env.set i (some x)).set j (some y)).set k (some z))
 | _,_=>none
inductive Sq where
 | im (xs:An)|rf (n:Nat)
def Walk (K:Frag) (mg:Ab) (J:It) (ρ:Ae) (H:Hp):Sq->Prop
 | .im xs=>(∀i aj H',Ext ρ H aj H'->i<xs.length->J.go i H')/\(∀i aj H',Ext ρ H aj H'->xs.length<=i->J.stop i H') /\
  ∀i aj H' st v H2,Ext ρ H aj H'->bf K mg aj H' st->i<xs.length->J.yld i H' v H2->∃x,xs[i]?=some x/\Ext aj H' aj H2/\bf K mg aj H2 st/\R K mg aj H2 x v
 | .rf n=>∃a,ρ[n]?=some a/\J=pV K a
def MI (X:Cx) (Er:XK) (tg iter:Expr) (src:zc->Mo Sq):Prop:=PI X tg iter λU H R=>∃env st ρ,bj X.K X.mg ρ H env U/\bf X.K X.mg ρ H st/\Out X.K X.mg ρ H (src env st) (λaj H' q bC=>∀J,Walk X.K X.mg J aj H' q->R J H') Er
def forL (g:PV->zc->Option zc) (body:Aj):List PV->Aj
 | [],env,st=>.ok (.nx env) st
 | x::xs,env,st=>match g x env with
  | none=>.stuck
  | some bX=>(body bX st).bind λfl av=>match fl with
   | .nx e=>forL g body xs e av
   | .ct e=>forL g body xs e av
   | .bk e=>.ok (.nx e) av
   | .rt v=>.ok (.rt v) av
def forR (g:PV->zc->Option zc) (body:Aj) (n:Nat):Nat->Nat->Aj
 | 0,_,_,_=>.stuck
 | m+1,i,env,st=>yp st n λxs=>match xs[i]? with
  | none=>.ok (.nx env) st
  | some x=>match g x env with
   | none=>.stuck
   | some bX=>(body bX st).bind λfl av=>match fl with
    | .nx e=>forR g body n m (i+1) e av
    | .ct e=>forR g body n m (i+1) e av
    | .bk e=>.ok (.nx e) av
    | .rt v=>.ok (.rt v) av
def ou (g:PV->zc->Option zc) (body:Aj):Sq->Aj
 | .im xs=>forL g body xs
 | .rf n=>forR g body n (lim+1) 0
def jo (src:zc->Mo Sq) (g:PV->zc->Option zc) (body:Aj):Aj:=λenv st=>(src env st).bind λq ae=>ou g body q env ae
theorem j7 {tg iter:Expr}{src:zc->Mo Sq}{gt:PV->zc->Option zc}(hp:PassesOwn (model X.prog X.w) X.A X.env X.xe) (hc:X.calm=true) (hi:MI X Er tg iter src) (hg:MG X Er tg gt) (hb:dW X Er ez gb)
  (hs:∀x,foldedSetIterable iter X.env x=pure x:=by intro _;rfl):MS X Er (.For tg iter ez [] pos) (jo src gt gb) :=
 PS.weak (xP hp hc hi hg hb hs) λD U H ⟨env,st,ρ,re,rs,h⟩=>⟨env,st,ρ,re,rs,h.then λaq H0 q dj e0 s0 h0 J wk=>by
  cases q with
  | im xs =>
   obtain ⟨w1,w2,w3⟩:=wk
   refine ⟨λi m U H=>m=xs.length-i/\i<=xs.length/\∃env st ρ,bj X.K X.mg ρ H env U/\bf X.K X.mg ρ H st/\Ext aq H0 ρ H/\Out X.K X.mg ρ H (forL gt gb (xs.drop i) env st) (gS X.K X.mg D) Er,⟨xs.length,by simp,jc _,env,dj,aq,re.ext e0,s0,Ext.refl,h0⟩,?_⟩
   rintro i m U H ⟨rfl,hi,env,st,ρ,re,rs,ex,h⟩
   by_cases bu:i<xs.length
   ·refine .inr ⟨w1 i ρ H ex bu,_,λai H' p'=>⟨xs.length-(i+1),by omega,rfl,bu,p'⟩,λv H' y=>?_⟩
    obtain ⟨x,hx,bN,s2,rx⟩:=w3 i ρ H st v H' ex rs bu y
    have hd:xs.drop i=x::xs.drop (i+1):=by
     rw [jP bu]
     have:=(yt.mp hx).2
     rw [this]
    rw [hd] at h
    cases hgx:gt x env with
    | none=>simp only [forL,hgx] at h;exact h.elim
    | some bX =>
     simp only [forL,hgx] at h
     refine ⟨x,env,bX,ρ,rx,re.ext bN,hgx,λau r1=>⟨bX,st,ρ,r1,s2,Out.then (Out.ext h bN) λal H3 fl a_ e3 s3 h3=>?_⟩⟩
     cases fl with
     | nx e=>exact λaE r4=>⟨e,a_,al,r4,s3,(ex.trans bN).trans e3,h3⟩
     | ct e=>exact λaE r4=>⟨e,a_,al,r4,s3,(ex.trans bN).trans e3,h3⟩
     | bk e=>exact Out.fl (D:=D) (fl:=.nx e) (E:=Er) h3 s3
     | rt v=>exact Out.fl (D:=D) (fl:=.rt v) (E:=Er) h3 s3
   ·have e:i=xs.length:=by omega
    subst e
    rw [List.drop_length] at h
    exact .inl ⟨w2 _ ρ H ex (yd _),Out.now (x:=Fl.nx env) h rs U re⟩
  | rf n =>
   obtain ⟨a,ha,rfl⟩:=wk
   refine ⟨λi m U H=>∃env st ρ,bj X.K X.mg ρ H env U/\bf X.K X.mg ρ H st/\ρ[n]?=some a/\Out X.K X.mg ρ H (forR gt gb n m i env st) (gS X.K X.mg D) Er,⟨lim+1,env,dj,aq,re.ext e0,s0,ha,h0⟩,?_⟩
   rintro i m U H ⟨env,st,ρ,re,rs,ha,h⟩
   cases m with
   | zero=>exact h.elim
   | succ m =>
    obtain ⟨xs,hn,h⟩:=jy h
    obtain ⟨vs,hH,hR⟩:=rs.addr hn ha
    cases hx:xs[i]? with
    | none =>
     simp only [hx] at h
     have:vs.length<=i:=by rw [<-hR.len];exact lY.mp hx
     exact .inl ⟨⟨vs,bo.of hH,this⟩,Out.now (x:=Fl.nx env) h rs U re⟩
    | some x =>
     simp only [hx] at h
     obtain ⟨v,hv,rv⟩:=hR.get hx
     refine .inr ⟨⟨vs,v,bo.of hH,hv⟩,_,λai H' p'=>⟨m,jS m,p'⟩,λv' H' y=>?_⟩
     obtain ⟨e1,y⟩:=y
     subst e1
     have e2:=y vs (bo.of hH)
     rw [hv] at e2
     cases e2
     cases hgx:gt x env with
     | none=>simp only [hgx] at h;exact h.elim
     | some bX =>
      simp only [hgx] at h
      refine ⟨x,env,bX,ρ,rv,re,hgx,λau r1=>⟨bX,st,ρ,r1,rs,Out.then h λal H3 fl a_ e3 s3 h3=>?_⟩⟩
      cases fl with
      | nx e=>exact λaE r4=>⟨e,a_,al,r4,s3,e3.get ha,h3⟩
      | ct e=>exact λaE r4=>⟨e,a_,al,r4,s3,e3.get ha,h3⟩
      | bk e=>exact Out.fl (D:=D) (fl:=.nx e) (E:=Er) h3 s3
      | rt v=>exact Out.fl (D:=D) (fl:=.rt v) (E:=Er) h3 s3⟩
end
section
variable {X:Cx}{Er:XK}{K:Frag}{mg:Ab}{a b c e o tg:Expr}{es:List Expr}{st:Stmt}{ez:List Stmt}{pos p apos pos':Pos}{fa fb fc fo:Ai}{fs:Ah}{k:Nat}{x:Str}{m:Al}
variable {g g' gb:Aj}{ga:Ak}
def PI.weak {t t':TI}(h:PI X tg e t) (w:∀U H Q,t' U H Q->t U H Q):PI X tg e t':=λpins s U H Q I q=>h pins s U H Q I (w U H Q q)
def Ld (K:Frag) (tl:TE):TI:=λU H R=>tl U H λx H1=>(∃a,x=.ref a/\(∃xs,bo K H1 a xs)/\R (pV K a) H1)\/(∃a,x=.ref a/\(∃xs,bg K H1 a xs)/\R (ma K a) H1)\/∃z,x=.str z/\R (tJ z) H1
def Le {l:Expr}{tl:TE}(hl:PE X l tl):PI X tg l (Ld X.K tl):=by
 intro pins s U H R I h
 refine aU (hl pins s U H _ I h) λv s1 ⟨x,H1,I1,r1,q1⟩=>?_
 have fin:∀b∈[s1.heap.objs.size],cO X pins H1 b:=λb hb=>by
  have e:b=s1.heap.objs.size:=by simpa using hb
  subst e
  exact I1.fpOk (yd _) (I1.hok.fresh (yd _))
 rcases q1 with ⟨a,e,⟨xs,hq⟩,q⟩|⟨a,e,⟨xs,hq⟩,q⟩|⟨z,rfl,q⟩
 ·subst e
  cases r1
  obtain ⟨its,rv,p,hz⟩:=I1.list hq
  exact wpAny_pyIter_list p.isList ⟨s1.heap.objs.size,[s1.heap.objs.size],_,_,H1,rfl,I1.kept (t':=s1.toks) (λb o e=>zZ _ e),GR a _,⟨_,yP _ rfl,rfl,rfl⟩,fin,q⟩
 ·subst e
  cases r1
  obtain ⟨its,rv,p,hz⟩:=I1.tuple hq
  exact wpAny_pyIter_tuple (show s1.heap.IsTuple a its.toArray from p) ⟨s1.heap.objs.size,[s1.heap.objs.size],_,_,H1,rfl,I1.kept (t':=s1.toks) (λb o e=>zZ _ e),GS a _,⟨_,yP _ rfl,rfl,rfl⟩,fin,q⟩
 ·obtain ⟨t,rfl⟩:=r1
  cases ha:z.cps.all (·<128) with
  | false=>exact wpAny_pyIter_wide ha ⟨s1.heap.objs.size,[s1.heap.objs.size],_,_,H1,rfl,I1.kept (t':=s1.toks) (λb o e=>zZ _ e),Ba z t _ "str_iterator" (.inr rfl),⟨_,yP _ rfl,rfl,rfl⟩,fin,q⟩
  | true=>exact wpAny_pyIter_ascii ha ⟨s1.heap.objs.size,[s1.heap.objs.size],_,_,H1,rfl,I1.kept (t':=s1.toks) (λb o e=>zZ _ e),Ba z t _ "str_ascii_iterator" (.inl rfl),⟨_,yP _ rfl,rfl,rfl⟩,fin,q⟩
def Lf {ρ:Ae}{H:Hp}{a:Addr}{xs:An}{vs:List V}(h:bg K H a vs) (r:Rs K mg ρ H xs vs):Walk K mg (ma K a) ρ H (.im xs):=by
 refine ⟨λi aj H' e hi=>?_,λi aj H' e hi=>⟨vs,e.sqT h,by rw [<-r.len];exact hi⟩,λi aj H' st v H2 e s hi y=>?_⟩
 ·obtain ⟨v,hv,_⟩:=r.get (yB hi)
  exact ⟨vs,v,e.sqT h,hv⟩
 ·obtain ⟨e1,y⟩:=y
  subst e1
  obtain ⟨v',hv,rv⟩:=r.get (yB hi)
  have:=y vs (e.sqT h)
  rw [hv] at this
  cases this
  exact ⟨_,yB hi,Ext.refl,s,R.ext e _ rv⟩
def Lg {ρ:Ae}{H:Hp}{a:Addr}{xs:An}{vs:List V}(h:g9 K H a vs) (r:Rs K mg ρ H xs vs):Walk K mg (pV K a) ρ H (.im xs):=by
 have hs:∀{aj H'},Ext ρ H aj H'->bo K H' a vs:=λe=>(e.frl h).sq
 refine ⟨λi aj H' e hi=>?_,λi aj H' e hi=>⟨vs,hs e,by rw [<-r.len];exact hi⟩,λi aj H' st v H2 e s hi y=>?_⟩
 ·obtain ⟨v,hv,_⟩:=r.get (yB hi)
  exact ⟨vs,v,hs e,hv⟩
 ·obtain ⟨e1,y⟩:=y
  subst e1
  obtain ⟨v',hv,rv⟩:=r.get (yB hi)
  have:=y vs (hs e)
  rw [hv] at this
  cases this
  exact ⟨_,yB hi,Ext.refl,s,R.ext e _ rv⟩
def signs (z:Str):An:=z.cps.toList.map λc=>.str ⟨#[c]⟩
def Lh {ρ:Ae}{H:Hp}(z:Str):Walk K mg (tJ z) ρ H (.im (signs z)):=by
 have hl:(signs z).length=z.cps.size:=by simp [signs]
 refine ⟨λi aj H' e hi=>by rw [hl] at hi;exact hi,λi aj H' e hi=>by rw [hl] at hi;exact hi,λi aj H' st v H2 e s hi y=>?_⟩
 obtain ⟨e1,c,hc,e2⟩:=y
 subst e1 e2
 refine ⟨.str ⟨#[c]⟩,?_,Ext.refl,s,rfl⟩
 simp [signs,hc]
def nums (lo:Int) (n:Nat):An:=(List.range n).map λi=>.int (lo+(i:Nat))
def Li {ρ:Ae}{H:Hp}(lo:Int) (n:Nat):Walk K mg (nv lo n) ρ H (.im (nums lo n)):=by
 have hl:(nums lo n).length=n:=by simp [nums]
 refine ⟨λi aj H' e hi=>by rw [hl] at hi;exact hi,λi aj H' e hi=>by rw [hl] at hi;exact hi,λi aj H' st v H2 e s hi y=>?_⟩
 obtain ⟨e1,e2⟩:=y
 subst e1 e2
 rw [hl] at hi
 exact ⟨.int (lo+i),by simp [nums,hi],Ext.refl,s,rfl⟩
def kS:PV->Mo Sq
 | .tup xs,st=>.ok (.im xs) st
 | .frl xs,st=>.ok (.im xs) st
 | .str z,st=>.ok (.im (signs z)) st
 | .ref n,st=>yp st n λ_=>.ok (.rf n) st
 | _,_=>.stuck
def yH (f:Ai):zc->Mo Sq:=λenv st=>(f env st).bind kS
def jg (h:ME X Er e fa):MI X Er tg e (yH fa):=PI.weak (Le h) λU H Q ⟨env,st,ρ,re,rs,h⟩=>⟨env,st,ρ,re,rs,h.then λag H1 x ae e1 s1 h1 v rv=>by
 cases x with
 | tup xs =>
  obtain ⟨a,vs,rfl,k1,k2⟩:=rv
  exact .inr (.inl ⟨a,rfl,⟨vs,k1⟩,Out.now (x:=Sq.im xs) h1 s1 _ (Lf k1 k2)⟩)
 | frl xs =>
  obtain ⟨a,vs,rfl,k1,k2⟩:=rv
  exact .inl ⟨a,rfl,⟨vs,k1.sq⟩,Out.now (x:=Sq.im xs) h1 s1 _ (Lg k1 k2)⟩
 | str z =>
  cases rv
  exact .inr (.inr ⟨z,rfl,Out.now (x:=Sq.im (signs z)) h1 s1 _ (Lh z)⟩)
 | ref n =>
  obtain ⟨a,rfl,ha⟩:=rv
  obtain ⟨xs,hn,h1⟩:=jy h1
  obtain ⟨vs,k1,k2⟩:=s1.addr hn ha
  exact .inl ⟨a,rfl,⟨vs,bo.of k1⟩,h1.now s1 _ ⟨a,ha,rfl⟩⟩
 | _=>exact h1.elim⟩
abbrev cR (j:Int):Bool:=decide (-(2 ^ 62)<=j)&&decide (j<2 ^ 62)
def kT:List PV->Mo Sq
 | [.int j],st=>if cR j=true then .ok (.im (nums 0 j.toNat)) st else .stuck
 | _,_=>.stuck
def Lj:List PV->Mo Sq
 | [.int i,.int j],st=>if cR i=true/\cR j=true then .ok (.im (nums i (j-i).toNat)) st else .stuck
 | _,_=>.stuck
def Lk {ρ:Ae}{H:Hp}{xs:An}{st:ao}{good:List Addr->Hp->Sq->ao->Prop}(h:Out K mg ρ H (kT xs st) good Er):∃j,xs=[.int j] /\ -(2 ^ 62)<=j/\j<2 ^ 62/\Out K mg ρ H (.ok (.im (nums 0 j.toNat)) st) good Er:=by
 unfold kT at h
 split at h
 ·obtain ⟨c,h⟩:=Out.ifp h
  simp [cR] at c
  exact ⟨_,rfl,c.1,c.2,h⟩
 ·exact h.elim
def dR (fs:Ah):zc->Mo Sq:=λenv st=>(fs env st).bind kT
def sE (fs:Ah):zc->Mo Sq:=λenv st=>(fs env st).bind Lj
def BV {a:Expr} (hm:X.mg "range" = none) (ha:MA X Er [a] fs) (hg:Gl X "range" := by rfl) (hs:starEach [a] X.env=[(false,eval a X.env)]:=by rfl):MI X Er tg (.Call (.Name "range" p) [a] [] pos) (dR fs) :=
 PI.weak (GW hg hm ha hs) λU H Q ⟨env,st,ρ,re,rs,h⟩=>⟨env,st,ρ,re,rs,h.then λag H1 xs ae e1 s1 h1 vs rv=>by
  obtain ⟨j,rfl,c1,c2,h1⟩:=Lk h1
  obtain ⟨v,rfl,rfl⟩:=Rs.one rv
  exact ⟨j,rfl,c1,c2,h1.now s1 _ (Li 0 j.toNat)⟩⟩
def iQ (xs ys:An):An:=(xs.zip ys).map λq=>.tup [q.1,q.2]
def oy:List PV->Mo Sq
 | [.tup xs,.tup ys],st=>.ok (.im (iQ xs ys)) st
 | _,_=>.stuck
def Ll {ρ:Ae}{H:Hp}{xs:An}{st:ao}{good:List Addr->Hp->Sq->ao->Prop}(h:Out K mg ρ H (oy xs st) good Er):∃ys zs,xs=[.tup ys,.tup zs]/\Out K mg ρ H (.ok (.im (iQ ys zs)) st) good Er:=by
 unfold oy at h
 split at h
 ·exact ⟨_,_,rfl,h⟩
 ·exact h.elim
theorem Lm {ρ:Ae}{H:Hp}{a b:Addr}{xs ys:An}{vs ws:List V}(h:bg K H a vs) (r:Rs K mg ρ H xs vs) (h':bg K H b ws) (r':Rs K mg ρ H ys ws):Walk K mg (uc K a b) ρ H (.im (iQ xs ys)):=by
 have hl:(iQ xs ys).length=min xs.length ys.length:=by simp [iQ]
 have l1:=r.len
 have l2:=r'.len
 refine ⟨λi aj H' e hi=>?_,λi aj H' e hi=>⟨vs,ws,e.sqT h,e.sqT h',by rw [hl] at hi;omega⟩,λi aj H' st v H2 e s hi y=>?_⟩
 ·rw [hl] at hi
  obtain ⟨v,hv,_⟩:=r.get (yB (show i<xs.length by omega))
  obtain ⟨w,hw,_⟩:=r'.get (yB (show i<ys.length by omega))
  exact ⟨vs,ws,v,w,e.sqT h,e.sqT h',hv,hw⟩
 ·rw [hl] at hi
  obtain ⟨T,v',w',hT,rfl,rfl,y1,y2⟩:=y
  have k1:i<xs.length:=by omega
  have k2:i<ys.length:=by omega
  obtain ⟨v,hv,rv⟩:=r.get (yB k1)
  obtain ⟨w,hw,c9⟩:=r'.get (yB k2)
  have q1:=y1 vs (e.sqT h)
  have q2:=y2 ws (e.sqT h')
  rw [hv] at q1
  rw [hw] at q2
  cases q1;cases q2
  refine ⟨.tup [xs[i],ys[i]],?_,Ext.new hT,s.new hT,R.tup_of ⟨_,[_],rfl,R.ext e _ rv,_,[],rfl,R.ext e _ c9,rfl⟩ hT⟩
  rw [iQ,jY,yB (by simp;omega)]
  simp
def mH (fs:Ah):zc->Mo Sq:=λenv st=>(fs env st).bind oy
def Ln {elts:List Expr} {kt:Nat} {tp:Pos} {x y:Expr} (hm:X.mg "zip" = none) (ha:MA X Er [x,y] fs) (hg:Gl X "zip" := by rfl) (hs:starEach [x,y] X.env=[(false,eval x X.env),(false,eval y X.env)]:=by rfl) (fC:starEach [y] X.env=[(false,eval y X.env)]:=by rfl) :
  MI X Er (.Tuple elts kt tp) (.Call (.Name "zip" p) [x,y] [] pos) (mH fs) :=
 PI.weak (J6 hg hm ha hs fC) λU H Q ⟨env,st,ρ,re,rs,h⟩=>⟨env,st,ρ,re,rs,h.then λag H1 xs ae e1 s1 h1 vs rv=>by
  obtain ⟨ys,zs,rfl,h1⟩:=Ll h1
  obtain ⟨v,w,rfl,⟨a,us,rfl,k1,k2⟩,⟨b,ws,rfl,k3,k4⟩⟩:=Rs.two rv
  exact ⟨a,b,rfl,⟨us,k1⟩,⟨ws,k3⟩,h1.now s1 _ (Lm k1 k2 k3 k4)⟩⟩
def bO (t:Ak) (b:Aj):Nat->Aj
 | 0,_,_=>.stuck
 | n+1,env,st=>(t env st).bind λc ae=>if c=true then (b env ae).bind λfl av=>match fl with
   | .nx e=>bO t b n e av
   | .ct e=>bO t b n e av
   | .bk e=>.ok (.nx e) av
   | .rt v=>.ok (.rt v) av
  else .ok (.nx env) ae
def qD (t:Ak) (b:Aj):Aj:=bO t b lim
def Lo (hp:PassesOwn (model X.prog X.w) X.A X.env X.xe) (hc:MT X Er c ga) (hb:dW X Er ez gb):MS X Er (.While c ez [] pos) (qD ga gb) :=
 PS.weak (GQ hp hc hb) λD U H ⟨env,st,ρ,re,rs,h⟩=>by
  refine ⟨λm U H=>∃env st ρ,bj X.K X.mg ρ H env U/\bf X.K X.mg ρ H st/\Out X.K X.mg ρ H (bO ga gb m env st) (gS X.K X.mg D) Er,⟨lim,env,st,ρ,re,rs,h⟩,?_⟩
  rintro m U H ⟨env,st,ρ,re,rs,h⟩
  cases m with
  | zero=>exact h.elim
  | succ m =>
   refine ⟨env,st,ρ,re,rs,Out.then h λag H1 k ae e1 s1 h1=>?_⟩
   cases k with
   | true =>
    change (if true=true then _ else D.nx U H1)
    rw [zu rfl]
    refine ⟨_,λai H' p'=>⟨m,jS m,p'⟩,env,ae,ag,re.ext e1,s1,Out.then h1 λal H3 fl a_ e3 s3 h3=>?_⟩
    cases fl with
    | nx e=>exact λaE r4=>⟨e,a_,al,r4,s3,h3⟩
    | ct e=>exact λaE r4=>⟨e,a_,al,r4,s3,h3⟩
    | bk e=>exact Out.fl (D:=D) (fl:=.nx e) (E:=Er) h3 s3
    | rt v=>exact Out.fl (D:=D) (fl:=.rt v) (E:=Er) h3 s3
   | false =>
    have z:D.nx U H1:=Out.fl (D:=D) (fl:=.nx env) (E:=Er) h1 s1 U (re.ext e1)
    exact z
def jL (cn fld:Str) (f:Ai):Aj:=λenv st=>(f env st).bind λx ae=>.err cn [fld] [x] ae
def wf {cn fld:Str} {np a0:Pos} (C:mD X.prog X.w X.K X.mg X.base cn fld) (he:ME X Er e fa) (hr:aW 2 X.A) (ht:jT X Er) (hc:X.calm=true) (hg:Gl X cn:=by rfl) (bG:(cn==("__debug__" : Str))=false:=by decide)
  (hs:starEach [e] X.env=(false,eval e X.env)::starEach [] X.env:=by rfl):MS X Er (.Raise (some (.Call (.Name cn np) [e] [] a0)) none pos) (jL cn fld fa):=by
 obtain ⟨C,f,fd,hm,M,F,hb⟩:=C
 exact PS.weak (JE he M F hr hg hm hb (kM ht) ht.one hc bG hs) λD U H ⟨env,st,ρ,re,rs,h⟩=>⟨env,st,ρ,re,rs,h.then λag H1 x ae e1 s1 h1 v rv d hd=>by
  exact h1 ag _ _ _ (Ext.new hd) (s1.new hd) ⟨C,rfl,hm,.inr ⟨d,[v],rfl,yx,⟨v,[],rfl,R.ext (Ext.new hd) x rv,rfl⟩,rfl⟩⟩⟩
def n8 (cn:Str):Aj:=λ_ st=>.err cn [] [] st
def bE {α:Type}:Res α->Res α
 | .err _ _ _ _=>.stuck
 | r=>r
def ju {α β:Type}{ρ:Ae}{H:Hp}{r:Res β}{f:β->Mo α}{good:List Addr->Hp->α->ao->Prop}{dU:List Addr->Hp->β->ao->Prop}{E E':XK}(h:Out K mg ρ H ((bE r).bind f) good E) (g:∀aj H' x st,Ext ρ H aj H'->bf K mg aj H' st->Out K mg aj H' (f x st) good E->dU aj H' x st):Out K mg ρ H r dU E':=by
 cases r with
 | ok x st=>exact λaj H' e s=>g aj H' x st e s (Out.ext h e)
 | err=>exact h.elim
 | stuck=>exact h.elim
def Lp (K:Frag) (mg:Ab) (f:Ai):TX:=λU H Q E=>∃env st ρ,bj K mg ρ H env U/\bf K mg ρ H st/\Out K mg ρ H (f env st) (gV K mg Q) E
def MX (X:Cx) (e:Expr) (f:Ai):Prop:=PX X e (Lp X.K X.mg f)
def PX.weak {t t':TX}(h:PX X e t) (w:∀U H Q E,t' U H Q E->t U H Q E):PX X e t':=λpins s U H Q E I q=>h pins s U H Q E I (w U H Q E q)
def gr (m:Al) (fs:Ah):Ai:=λenv st=>(bE (fs env st)).bind m
def BW (C:a7 X.prog X.w X.K X.mg X.base x k m) (hr:aW k X.A) (ha:MA X.nox E0 (e::es) fs) (hg:Gl X x:=by rfl) (bG:(x==("__debug__" : Str))=false:=by decide)
  (he:starEach (e::es) X.env=(false,eval e X.env)::starEach es X.env:=by rfl) (br:(backTo pos (starEach es X.env)).any (·.1)=false:=by rfl):MX X (.Call (.Name x p) (e::es) [] pos) (gr m fs):=by
 obtain ⟨f,fd,ps,hm,hk,hb,F⟩:=C
 exact PX.weak (JG F hr hg hm hk hb .nil ha bG he br) λU H Q E ⟨env,st,ρ,re,rs,h⟩=>⟨env,st,ρ,re,rs,ju h λag H1 xs ae e1 s1 k vs rv=>by
  show gp X.K X.mg m (vs++[]) H1 Q E
  rw [List.append_nil]
  exact ⟨xs,ae,ag,rv,s1,k⟩⟩
def Lq (X:Cx) (name:Str) (k:Nat) (ta:TE) (t:TA):TX:=λU H Q E=>ta U H λx H1=>∃a C dx fs f fd ps sp,x=.ref a/\H1 a=some (.ins C dx fs)/\fs.lookup name=none/\eP X.K C/\Meth X.K C name f/\Binds X.K fd ps []/\bp X.prog X.w X.K X.mg X.base (bT X.prog X.w) k f fd ps sp /\
 t U H1 λvs H2=>sp (x::vs) H2 Q E
def Ls {pl:Sem Bool}{name:Str}{ta:TE}{t:TA}(he:PE X.nox o ta) (hr:aW k X.A) (ha:PA X.nox (e::es) t)
  (bw:starEach (e::es) X.env=(false,eval e X.env)::starEach es X.env:=by rfl) (br:(backTo pos (starEach es X.env)).any (·.1)=false:=by rfl)
  (ht:eval (.Call (.Attribute o name apos) (e::es) [] pos) X.env=(do
   let ov <-eval o X.env
   standAt apos.atName
   let (f,first) <-holding [ov] (getMethod ov name pl)
   callWith pos f first (backTo pos (starEach (e::es) X.env)) (backToKw pos (keywordEach [] X.env))):=by rfl) :
  PX X (.Call (.Attribute o name apos) (e::es) [] pos) (Lq X name k ta t):=by
 intro pins s U H Q E I h
 refine PySem.W.methodCall_KW (pl:=pl) (yG (he pins s U H _ (I.wish _) h) (λu s1 ⟨x,H1,I1,rx,a,C,dx,fs,f,fd,ps,sp,ex,ea,l,c,hm,hb,F,q⟩=>?_) λ_ _ z=>z.elim) ht
 subst ex
 obtain rfl:u=Value.ref a:=rx
 refine sN I1.unwish ea c hm l ?_
 refine PySem.W.callWith_K (first:=[.ref a]) (h₀:=X.base) I.ok.mod.kin hm.kp (yG (ha pos pins s1 U H1 _ I1 q) (λus s2 ⟨vs,H2,I2,r,q2⟩=>⟨I2.unwish.kIn,?_⟩) λ_ _ z=>z.elim) bw br
 exact Bs (us:=.ref a::us) (vs:=.ref a::vs) F hr hb .nil I2.unwish (.cons rfl r) (by rw [List.append_nil];exact q2)
def gu (name:Str) (tab:Str->Option (Al)) (fo:Ai) (fs:Ah):Ai:=λenv st=>(bE (fo env st)).bind λo ae=>hU name tab o ae λn m=>(bE (fs env ae)).bind λys av=>m (.ref n::ys) av
def Lu {pl:Sem Bool}{name:Str}{tab:Str->Option (Al)}(hT:∀c m,tab c=some m->bx X.prog X.w X.K X.mg X.base c name k m) (ho:ME X.nox E0 o fo) (hr:aW k X.A) (ha:MA X.nox E0 (e::es) fs)
  (bw:starEach (e::es) X.env=(false,eval e X.env)::starEach es X.env:=by rfl) (br:(backTo pos (starEach es X.env)).any (·.1)=false:=by rfl)
  (oq:eval (.Call (.Attribute o name apos) (e::es) [] pos) X.env=(do
   let ov <-eval o X.env
   standAt apos.atName
   let (f,first) <-holding [ov] (getMethod ov name pl)
   callWith pos f first (backTo pos (starEach (e::es) X.env)) (backToKw pos (keywordEach [] X.env))):=by rfl) :
  MX X (.Call (.Attribute o name apos) (e::es) [] pos) (gu name tab fo fs) :=
 PX.weak (Ls (pl:=pl) ho hr ha bw br oq) λU H Q E ⟨env,st,ρ,re,rs,h⟩=>⟨env,st,ρ,re,rs,ju h λag H1 x ae e1 s1 h1 v rv=>by
  obtain ⟨n,c,ks,xs,m,rfl,hn,hk,hc,h1⟩:=uD h1
  obtain ⟨C,f,fd,ps,hC,cl,hm,hb,F⟩:=hT c m hc
  obtain ⟨p,rfl,hp⟩:=rv
  obtain ⟨C',dx,vs,hC',hH,hR,hl⟩:=s1.addr hn hp
  rw [hC] at hC'
  cases hC'
  exact ⟨p,C,dx,_,f,fd,ps,_,rfl,hH,oo hk,cl,hm,hb,F,env,ae,ag,re.ext e1,s1,ju h1 λam H2 ys av e2 s2 h2 ws rws=>⟨.ref n::ys,av,am,⟨_,_,rfl,⟨p,rfl,e2.get hp⟩,rws⟩,s2,h2⟩⟩⟩
def mI (j:Nat):Fl->Mo Fl
 | .nx e,st=>.ok (.nx (e.set j none)) st
 | _,_=>.stuck
def wU (i j:Nat) (cn:Str) (fv:Ai) (bt:Aj):Aj:=λenv st=>match fv env st with
 | .ok x ae=>.ok (.nx (env.set i (some x))) ae
 | .err c ks xs ae=>if c=cn/\ks≠[] then (bE (bt (env.set j (some (.exo c ks xs))) ae)).bind (mI j) else .stuck
 | .stuck=>.stuck
def Lv (i j:Nat) {x n cn:Str}{value:Expr}{fv:Ai}{gs:Aj}{b0:Stmt}{bt:List Stmt}{xp ap cp hp:Pos}{C:Addr}(hm:X.mg cn=some (.ref C)) (hC:eZ X.K C) (hv:MX X value fv) (g7:∀a,dW (X.caught a) E0 (b0::bt) gs) (hN:X.N.Nodup)
  (bw:X.stack=X.env::X.outer:=by rfl) (cK:X.env.frame=some X.env.locals:=by rfl) (hi:X.N[i]?=some x:=by rfl) (hx:Loc X.env.scope x:=by first|exact Or.inl rfl|exact Or.inr rfl) (hj:X.N[j]?=some n:=by rfl) (hn:X.env.scope.names.lookup n=some .local:=by rfl) (hg:Gl X cn:=by rfl)
  (gm:swapsWith value (some (.Name x xp)) ap.line X.env=pure false:=by rfl) (hf:X.fn x=true\/X.env.scope.names.lookup x=some .local:=by first|exact .inl rfl|exact .inr rfl|assumption) (bG:(cn==("__debug__" : Str))=false:=by decide) :
  MS X Er (.Try [.Assign [.Name x xp] value ap] [.ExceptHandler (some (.Name cn cp)) (some n) (b0::bt) hp] [] [] pos) (wU i j cn fv gs) :=
 PS.weak (JI (tsu:=sM X.K X.mg E0 gs) hN hi hx hj hn hv hg hm hC g7 bw cK gm hf bG) λD U H ⟨env,st,ρ,re,rs,h⟩=>by
  refine ⟨env,st,ρ,re,rs,?_⟩
  unfold wU at h
  cases hr:fv env st with
  | ok y ae =>
   rw [hr] at h
   exact λag H1 e1 s1 v rv=>h ag H1 e1 s1 _ ((re.ext e1).set i rv)
  | stuck=>rw [hr] at h;exact h.elim
  | err c ks xs ae =>
   simp only [hr] at h
   obtain ⟨⟨uG,hk⟩,h2⟩:=Out.ifp h
   subst uG
   intro ag H1 Cv d e1 s1 xr
   obtain ⟨C',rfl,hm',hd⟩:=xr
   rw [hm] at hm'
   cases hm'
   refine ⟨rfl,λq hq=>?_⟩
   rcases hd with ⟨oz,_⟩|⟨dd,vs,rfl,uH,hR,hl⟩
   ·exact absurd oz hk
   ·have eq:Ext ag H1 ag (upd H1 q (fF C (some dd) q)):=Ext.new hq
    refine ⟨env.set j (some (.exo c ks xs)),ae,ag,((re.ext e1).ext eq).set j ⟨q,C,dd,vs,rfl,hm,yx,eq.imm _ _ uH rfl,Rs.ext eq xs hR,hl⟩,s1.new hq,ju (Out.ext h2 (e1.trans eq)) λam H2 fl av e2 s2 h2=>?_⟩
    cases fl with
    | nx e=>exact λaD r2=>Out.fl (D:=D) (fl:=.nx (e.set j none)) (E:=Er) h2 s2 _ (r2.unset j)
    | _=>exact h2.elim
def iR (ks:Ad) (ps:An):PV->Mo PV
 | .str z,st=>bP ((ks.zip ps).lookup z) st
 | _,_=>.stuck
def KdF (X:Cx) (name:Str) (ks:Ad) (ps:An) (full:Bool):Prop:=∃O,X.mg name=some (.ref O)/\KD X O/\(∀z q,(ks.zip ps).lookup z=some q->∃u v,nsIn X.K O z=some (some u)/\RelV v u/\∀ρ H,R X.K X.mg ρ H q v)/\(full=true->∀z,(ks.zip ps).lookup z=none->nsIn X.K O z=some none)
def zeE {name:Str} {ks:Ad} {ps:An} {full:Bool} (F:KdF X name ks ps full) (hb:ME X Er b fb) (hs:eU b:=by exact λ_ _=>rfl) (hg:Gl X name:=by rfl) (hd:(name==("__debug__" : Str))=false:=by decide):ME X Er (.Subscript (.Name name p) b pos) (zX (iR ks ps) fb):=by
 obtain ⟨O,hm,kd,hl,_⟩:=F
 refine PE.weak (AE J7 (sv (v:=.ref O) hg hm rfl hd) hb hs) λU H Q ⟨env,st,ρ,re,rs,h⟩=>⟨env,st,ρ,re,rs,h.then λag H1 x ae e1 s1 h1 v rv=>?_⟩
 cases x with
 | str z =>
  cases rv
  obtain ⟨q,hq,h1⟩:=iM h1
  obtain ⟨u,v,h2,h3,h4⟩:=hl z q hq
  exact ⟨O,z,u,v,rfl,rfl,kd,h2,h3,h1.now s1 _ (h4 _ _)⟩
 | _=>exact h1.elim
def oA (neg:Bool) (ks:Ad) (ps:An) (full:Bool):PV->Mo PV
 | .str z,st=>if ((ks.zip ps).lookup z).isSome=true\/full=true then .ok (.bl (neg.xor ((ks.zip ps).lookup z).isSome)) st else .stuck
 | _,_=>.stuck
def Lw {name:Str}{ks:Ad}{ps:An}{full:Bool}{O:Addr}(hl:∀z q,(ks.zip ps).lookup z=some q->∃u v,nsIn X.K O z=some (some u)/\RelV v u/\∀ρ H,R X.K X.mg ρ H q v) (hf:full=true->∀z,(ks.zip ps).lookup z=none->nsIn X.K O z=some none) {z:Str}(h:((ks.zip ps).lookup z).isSome=true\/full=true):∃r,nsIn X.K O z=some r/\r.isSome=((ks.zip ps).lookup z).isSome:=by
 cases hq:(ks.zip ps).lookup z with
 | some q=>obtain ⟨u,v,h2,_⟩:=hl z q hq;exact ⟨_,h2,rfl⟩
 | none =>
  rw [hq] at h
  rcases h with h|h
  ·cases h
  ·exact ⟨none,hf h z hq,rfl⟩
def zp2 {name:Str} {ks:Ad} {ps:An} {full:Bool} (F:KdF X name ks ps full) (ha:ME X Er a fa) (hg:Gl X name:=by rfl) (hd:(name==("__debug__" : Str))=false:=by decide) (hk:behindInMarks .NotIn (.Name name p)=false:=by with_unfolding_all rfl):MT X Er (.Compare a [.NotIn] [.Name name p] pos) (mB (zX (oA true ks ps full) fa)):=by
 obtain ⟨O,hm,kd,hl,hf⟩:=F
 refine PT.weak (xS J8 ha (sv (v:=.ref O) hg hm rfl hd) hk) λU H Q h=>?_
 obtain ⟨env,st,ρ,re,rs,h⟩:=qt h
 refine ⟨env,st,ρ,re,rs,h.then λag H1 x ae e1 s1 h1 v rv=>?_⟩
 cases x with
 | str z =>
  cases rv
  obtain ⟨q,h1⟩:=Out.ifp h1
  obtain ⟨r,h2,h3⟩:=Lw (name:=name) hl hf q
  have:=Out.now h1 s1 _ rfl
  exact ⟨O,z,r,rfl,rfl,kd,h2,by rw [h3];simpa using this⟩
 | _=>exact h1.elim
def jh:Am
 | .ref n,y,st=>yp st n λxs=>if xs.length<lim then .ok .non (st.set n (.lst (xs++[y]))) else .stuck
 | _,_,_=>.stuck
def uI:Am
 | .ref n,.ref k,st=>yp st n λxs=>yp st k λys=>if xs.length+ys.length<=lim then .ok .non (st.set n (.lst (xs++ys))) else .stuck
 | _,_,_=>.stuck
def R.refL {ρ:Ae}{H:Hp}{st:ao}{n:Nat}{xs:An}{v:V}(s:bf K mg ρ H st) (r:R K mg ρ H (.ref n) v) (h:st[n]?=some (.lst xs)):∃a vs,v=.ref a/\ρ[n]?=some a/\H a=some (.lst vs)/\Rs K mg ρ H xs vs:=by
 obtain ⟨a,rfl,ha⟩:=r
 obtain ⟨vs,h1,h2⟩:=s.addr h ha
 exact ⟨a,vs,rfl,ha,h1,h2⟩
def iS:PV->Mo PV
 | .ref n,st=>yp st n λ_=>.ok (.ref n) st
 | _,_=>.stuck
def y4 (op:Am) (fo fv:Ai):Ai:=λenv st=>(fo env st).bind λo ae=>(iS o ae).bind λo ae=>(fv env ae).bind λy av=>op o y av
def BX {α:Type}{ρ:Ae}{H:Hp}{x:PV}{st:ao}{f:PV->Mo α}{good:List Addr->Hp->α->ao->Prop}(h:Out K mg ρ H ((iS x st).bind f) good Er):∃n xs,x=.ref n/\st[n]?=some (.lst xs)/\Out K mg ρ H (f (.ref n) st) good Er:=by
 cases x with
 | ref n =>
  unfold iS yp at h
  cases hn:st[n]? with
  | none=>simp only [hn] at h;exact h.elim
  | some so =>
   cases so with
   | lst xs=>simp only [hn] at h;exact ⟨n,xs,rfl,hn,h⟩
   | _=>simp only [hn] at h;exact h.elim
 | _=>exact h.elim
theorem wg {a0:Pos} (ho:ME X Er o fo) (he:ME X Er e fa) (bI:attributeBase o "append" X.env (eval o X.env)=eval o X.env:=by rfl)
  (gd:((backTo a0 (starEach [e] X.env)).all (λx=>!x.1)&&(backToKw a0 (keywordEach [] X.env)).all (λx=>x.1.isSome)&&decide ([e].length+([]:List Keyword).length+(if ([]:List Keyword).isEmpty then 0 else 1)<30))=true:=by rfl)
  (cP:(apos.endLine==a0.line)=true:=by rfl) (hs:starEach [e] X.env=(false,eval e X.env)::starEach [] X.env:=by rfl) (br:(backTo a0 (starEach [] X.env)).any (·.1)=false:=by rfl):ME X Er (.Call (.Attribute o "append" apos) [e] [] a0) (y4 jh fo fa) :=
 PE.weak (sS PySem.F.plainAttrs_list PySem.F.slot_list_append PySem.F.type_list_append znZ ho (p6 he p5 hs) bI gd cP hs br) λU H Q ⟨env,st,ρ,re,rs,h⟩=>⟨env,st,ρ,re,rs,h.then λag H1 x ae e1 s1 h1 v rv=>by
  obtain ⟨n,xs,rfl,hn,h1⟩:=BX h1
  obtain ⟨p,vs,rfl,hp,k1,k2⟩:=R.refL s1 rv hn
  refine ⟨.inl ⟨rfl,vs,bo.of k1⟩,env,ae,ag,re.ext e1,s1,h1.then λam H2 y av e2 s2 h2 w rw=>?_⟩
  obtain ⟨BZ,fB,h2⟩:=jy h2
  obtain ⟨c,h2⟩:=Out.ifp h2
  obtain ⟨p',iH,e3,nX,k3,k4⟩:=R.refL s2 (R.ext e2 _ rv) fB
  cases e3
  have ew:Ext am H2 am (upd H2 p (.lst (iH++[w]))):=Ext.write k3 rfl
  refine ⟨p,iH,w,rfl,rfl,k3,?_,h2 am _ ew (s2.write nX ew ⟨iH++[w],yx,Rs.ext ew _ (k4.append ⟨w,[],rfl,rw,rfl⟩)⟩) _ rfl⟩
  rw [<-k4.len,sizeLine_eq];have:BZ.length<1000000:=c;omega⟩
def zp3 {a0:Pos} (ho:ME X Er o fo) (he:ME X Er e fa) (bI:attributeBase o "extend" X.env (eval o X.env)=eval o X.env:=by rfl)
  (gd:((backTo a0 (starEach [e] X.env)).all (λx=>!x.1)&&(backToKw a0 (keywordEach [] X.env)).all (λx=>x.1.isSome)&&decide ([e].length+([]:List Keyword).length+(if ([]:List Keyword).isEmpty then 0 else 1)<30))=true:=by rfl)
  (cP:(apos.endLine==a0.line)=true:=by rfl) (hs:starEach [e] X.env=(false,eval e X.env)::starEach [] X.env:=by rfl) (br:(backTo a0 (starEach [] X.env)).any (·.1)=false:=by rfl):ME X Er (.Call (.Attribute o "extend" apos) [e] [] a0) (y4 uI fo fa) :=
 PE.weak (sS PySem.F.plainAttrs_list PySem.F.slot_list_extend PySem.F.type_list_extend zn1 ho (p6 he p5 hs) bI gd cP hs br) λU H Q ⟨env,st,ρ,re,rs,h⟩=>⟨env,st,ρ,re,rs,h.then λag H1 x ae e1 s1 h1 v rv=>by
  obtain ⟨n,xs,rfl,hn,h1⟩:=BX h1
  obtain ⟨p,vs,rfl,hp,k1,k2⟩:=R.refL s1 rv hn
  refine ⟨.inl ⟨rfl,vs,bo.of k1⟩,env,ae,ag,re.ext e1,s1,h1.then λam H2 y av e2 s2 h2 w rw=>?_⟩
  cases y with
  | ref m =>
   obtain ⟨BZ,fB,h2⟩:=jy h2
   obtain ⟨Wc,Lx,h2⟩:=jy h2
   obtain ⟨c,h2⟩:=Out.ifp h2
   obtain ⟨p',iH,e3,nX,k3,k4⟩:=R.refL s2 (R.ext e2 _ rv) fB
   cases e3
   obtain ⟨q,uJ,rfl,g8,k5,k6⟩:=R.refL s2 rw Lx
   have ew:Ext am H2 am (upd H2 p (.lst (iH++uJ))):=Ext.write k3 rfl
   exact ⟨p,q,iH,uJ,rfl,rfl,k3,k5,by rw [<-k4.len,<-k6.len];exact yZ c,h2 am _ ew (s2.write nX ew ⟨iH++uJ,yx,Rs.ext ew _ (k4.append k6)⟩) _ rfl⟩
  | _=>exact h2.elim⟩
end
def endOf:Fl->Mo PV
 | .rt v,st=>.ok v st
 | .nx _,st=>.ok .non st
 | _,_=>.stuck
def zJ (np nN:Nat) (g:Aj):Al:=λxs st=>if xs.length=np then (g (xs.map some++List.replicate (nN-np) none) st).bind endOf else .stuck
section
variable {P:Program}{w:World}{K:Frag}{mg:Ab}{base:Heap}
abbrev qE (P:Program) (w:World) (K:Frag) (mg:Ab) (base:Heap) (N:Ad) (qual:Str) (scope:Scope) (f:Addr) (cd:Value) (A:Around) (outer:List Env) (s:Shared) (H:Hp) (E:XK):Cx :=
 (dg (bT P w) P w K mg base N qual scope f cd A outer s H E).wish (XA (dg (bT P w) P w K mg base N qual scope f cd A outer s H E) E)
theorem Ly {N:Ad}{np:Nat}{ρ:Ae}{H:Hp}{xs:An}{vs:List V}(r:Rs K mg ρ H xs vs) (h:xs.length=np):bj K mg ρ H (xs.map some++List.replicate (N.length-np) none) (L2.start N vs):=by
 have hl:=r.len
 refine ⟨by simp [L2.start,<-hl,h],λi x hx=>?_⟩
 by_cases hi:i<xs.length
 ·rw [ik (by simpa using hi)] at hx
  simp only [jY] at hx
  cases hq:xs[i]? with
  | none=>rw [hq] at hx;cases hx
  | some y =>
   rw [hq] at hx
   cases hx
   obtain ⟨v,hv,rv⟩:=r.get hq
   refine ⟨v,?_,rv⟩
   unfold L2.start
   rw [ik (by simp;omega)]
   simp [hv]
 ·rw [kf (by simpa using hi)] at hx
  rw [List.getElem?_replicate] at hx
  split at hx<;>cases hx
def qF {x qual:Str}{sm:Stmt}{f:Addr}{fd:FuncData}{N ps:Ad}{k:Nat}{g:Aj}(F:dJ K x qual sm f fd) (S:aa N ps (zD sm))
  (hb:∀(aX:Value) (A:Around) (outer:List Env) (s:Shared) (H:Hp) (E:XK),aW k (A.deeper (PyProof.Rows.envOfC qual (zD sm) s.heap.objs.size f aX))->dW (qE P w K mg base N qual (zD sm) f aX A outer s H E) E (je sm) g) :
  bp P w K mg base (bT P w) (k+1) f fd ps (gp K mg (zJ ps.length N.length g)):=by
 refine F.okT S (λvs H Q E h=>?_) λaX A outer s H vs Q E hr h=>⟨_,hb aX A outer s H E hr,?_⟩
 ·obtain ⟨xs,st,ρ,r,_,h⟩:=h
  obtain ⟨hl,_⟩:=Out.ifp h
  rw [<-r.len];exact hl
 ·obtain ⟨xs,st,ρ,r,rs,h⟩:=h
  obtain ⟨hl,h⟩:=Out.ifp h
  refine ⟨_,st,ρ,Ly r hl,rs,h.then λag H1 fl ae e1 s1 h1=>?_⟩
  cases fl with
  | rt v=>exact λu ru=>Out.now (x:=v) h1 s1 u ru
  | nx e=>exact λai _=>Out.now (x:=PV.non) h1 s1 _ rfl
  | _=>exact h1.elim
def Lz {x:Str}{f:Addr}{fd:FuncData}{ps:Ad}{k:Nat}{m:Al}{sm:Stmt}{qual nm:Str}(hm:mg x=some (.ref f)) (F:dJ K nm qual sm f fd) (hb:Binds K fd ps []) (h:bp P w K mg base (bT P w) k f fd ps (gp K mg m)):a7 P w K mg base x k m:=⟨f,fd,ps,hm,F.kp,hb,h⟩
end
section
variable {X:Cx}{Er:XK}{P:Program}{w:World}{K:Frag}{mg:Ab}{base:Heap}{pos:Pos}{x:Str}{st:Stmt}
theorem zm {k:Nat}{A:Around}(hr:aW k A):A.units+200<cLine:=by have:=hr.un;omega
def qG:Aj:=λ_ _=>.stuck
def uK {n:Int} (h:∃t,X.mg x=some (.int n t)) (hg:Gl X x:=by rfl) (hd:(x==("__debug__" : Str))=false:=by decide):ME X Er (.Name x pos) (mC (.int n)):=let ⟨t,h⟩:=h;Kd (v:=.int n) h ⟨t,rfl⟩ (λ_ _=>rfl) hg hd
def FnF (K:Frag) (mg:Ab) (x:Str) (sm:Stmt) (ps:Ad):Prop:=∃f fd,mg x=some (.ref f)/\dJ K x x sm f fd/\Binds K fd ps []
def MtF (K:Frag) (mg:Ab) (c name qual:Str) (sm:Stmt) (ps:Ad):Prop:=∃C f fd,mg c=some (.ref C)/\eP K C/\Meth K C name f/\dJ K name qual sm f fd/\Binds K fd ps []
def NwF (K:Frag) (mg:Ab) (c qual:Str) (sm:Stmt) (ps:Ad):Prop:=∃C f fd,mg c=some (.ref C)/\Mk K C f/\dJ K "__init__" qual sm f fd/\Binds K fd ps []
def XnF (K:Frag) (mg:Ab) (c fld qual:Str) (sm:Stmt):Prop:=∃C f fd,mg c=some (.ref C)/\e_ K C f/\kJ K C fld/\dJ K "__init__" qual sm f fd/\Binds K fd ["self", fld] []
def FnF.ok {sm:Stmt}{N ps:Ad}{k:Nat}{g:Aj}(h:FnF K mg x sm ps) (S:aa N ps (zD sm))
  (hb:∀(f:Addr) (aX:Value) (A:Around) (outer:List Env) (s:Shared) (H:Hp) (E:XK),aW k (A.deeper (PyProof.Rows.envOfC x (zD sm) s.heap.objs.size f aX))->dW (qE P w K mg base N x (zD sm) f aX A outer s H E) E (je sm) g) :
  a7 P w K mg base x (k+1) (zJ ps.length N.length g):=by
 obtain ⟨f,fd,hm,F,b⟩:=h
 exact Lz hm F b (qF F S (hb f))
def MtF.ok {c name qual:Str}{sm:Stmt}{N ps:Ad}{k:Nat}{g:Aj}(h:MtF K mg c name qual sm ps) (S:aa N ps (zD sm))
  (hb:∀(f:Addr) (aX:Value) (A:Around) (outer:List Env) (s:Shared) (H:Hp) (E:XK),aW k (A.deeper (PyProof.Rows.envOfC qual (zD sm) s.heap.objs.size f aX))->dW (qE P w K mg base N qual (zD sm) f aX A outer s H E) E (je sm) g) :
  bx P w K mg base c name (k+1) (zJ ps.length N.length g):=by
 obtain ⟨C,f,fd,hm,cl,mt,F,b⟩:=h
 exact ⟨C,f,fd,ps,hm,cl,mt,b,qF F S (hb f)⟩
def NwF.ok {c qual:Str}{sm:Stmt}{N ps:Ad}{k:Nat}{g:Aj}(h:NwF K mg c qual sm ps) (S:aa N ps (zD sm))
  (hb:∀(f:Addr) (aX:Value) (A:Around) (outer:List Env) (s:Shared) (H:Hp) (E:XK),aW k (A.deeper (PyProof.Rows.envOfC qual (zD sm) s.heap.objs.size f aX))->dW (qE P w K mg base N qual (zD sm) f aX A outer s H E) E (je sm) g) :
  gK P w K mg base c (k+1) (zJ ps.length N.length g):=by
 obtain ⟨C,f,fd,hm,mk,F,b⟩:=h
 exact ⟨C,f,fd,ps,hm,mk,b,qF F S (hb f)⟩
def XnF.ok {c fld qual:Str} {sm:Stmt} (h:XnF K mg c fld qual sm) (S:aa ["self", fld] ["self", fld] (zD sm))
  (hb:∀(C f:Addr) (aX:Value) (A:Around) (outer:List Env) (s:Shared) (H:Hp) (E:XK),kJ K C fld->bY (dg (bT P w) P w K mg base ["self", fld] qual (zD sm) f aX A outer s H E) (je sm) (Bo K (pO 0) (pO 1) fld)) :
  mD P w K mg base c fld:=by
 obtain ⟨C,f,fd,hm,M,xc,F,b⟩:=h
 refine ⟨C,f,fd,hm,M,F.okX S (λvs H Q E h=>?_) (λaX A outer s H vs Q E hr h=>⟨_,hb C f aX A outer s H E xc,?_⟩),b⟩
 ·obtain ⟨a,t,y,rfl,_⟩:=h;rfl
 ·obtain ⟨a,t,y,rfl,ha,q⟩:=h
  exact ⟨y,rfl,.ref a,rfl,a,C,t,rfl,ha,xc,λd hd=>q d hd⟩
def XnF.tr {c fld qual:Str}{sm:Stmt}(h:XnF K mg c fld qual sm):∃C,mg c=some (.ref C)/\eZ K C:=by
 obtain ⟨C,f,fd,hm,M,_⟩:=h
 exact ⟨C,hm,M.of⟩
def B0 (i j:Nat) {x n cn:Str}{value:Expr}{fv:Ai}{gs:Aj}{b0:Stmt}{bt:List Stmt}{xp ap cp hp:Pos}(hC:∃C,X.mg cn=some (.ref C)/\eZ X.K C) (hv:MX X value fv) (g7:∀a,dW (X.caught a) E0 (b0::bt) gs) (hN:X.N.Nodup)
  (bw:X.stack=X.env::X.outer:=by rfl) (cK:X.env.frame=some X.env.locals:=by rfl) (hi:X.N[i]?=some x:=by rfl) (hx:Loc X.env.scope x:=by first|exact Or.inl rfl|exact Or.inr rfl) (hj:X.N[j]?=some n:=by rfl) (hn:X.env.scope.names.lookup n=some .local:=by rfl) (hg:Gl X cn:=by rfl)
  (gm:swapsWith value (some (.Name x xp)) ap.line X.env=pure false:=by rfl) (hf:X.fn x=true\/X.env.scope.names.lookup x=some .local:=by first|exact .inl rfl|exact .inr rfl|assumption) (bG:(cn==("__debug__" : Str))=false:=by decide) :
  MS X Er (.Try [.Assign [.Name x xp] value ap] [.ExceptHandler (some (.Name cn cp)) (some n) (b0::bt) hp] [] [] pos) (wU i j cn fv gs):=by
 obtain ⟨C,h1,h2⟩:=hC
 exact Lv i j h1 h2 hv g7 hN bw cK hi hx hj hn hg gm hf bG
theorem mJ {p:Addr} {oc:Value} {od:Option Addr} {its:Array Value} {n:Nat} {sl:Array (Option Value)} {xs:An} {vs:List V} (hl:K.lookup p=some ⟨oc,od,.seq its n,sl⟩) (hc:oc=.type "tuple") (hz:its.size<=1000) (hv:Vals vs its.toList) (hr:∀ρ H,Rs K mg ρ H xs vs):∀ρ H,R K mg ρ H (.tup xs) (.ref p) :=
 fun ρ H=>⟨p,vs,rfl,.inr ⟨_,its,n,hl,hc,rfl,by rw [sizeLine_eq];omega,hv⟩,hr ρ H⟩
theorem jA:bootBuiltins "len" = some (.builtin "len"):=by decide +kernel
theorem LA:bootBuiltins "isinstance" = some (.builtin "isinstance"):=by decide +kernel
theorem B4:bootBuiltins "str" = some (.type "str"):=by decide +kernel
theorem jm:bootBuiltins "tuple" = some (.type "tuple"):=by decide +kernel
theorem uL:bootBuiltins "dict" = some (.type "dict"):=by decide +kernel
theorem B5:bootBuiltins "list" = some (.type "list"):=by decide +kernel
end
def a7.mono {P:Program}{w:World}{K:Frag}{mg:Ab}{base:Heap}{x:Str}{j k:Nat}{m:Al}(h:a7 P w K mg base x j m) (uM:j<=k):a7 P w K mg base x k m:=by
 obtain ⟨f,fd,ps,h1,h2,h3,h4⟩:=h
 exact ⟨f,fd,ps,h1,h2,h3,h4.mono uM⟩
def bx.mono {P:Program}{w:World}{K:Frag}{mg:Ab}{base:Heap}{c x:Str}{j k:Nat}{m:Al}(h:bx P w K mg base c x j m) (uM:j<=k):bx P w K mg base c x k m:=by
 obtain ⟨C,f,fd,ps,h1,h2,h3,h4,h5⟩:=h
 exact ⟨C,f,fd,ps,h1,h2,h3,h4,h5.mono uM⟩
def hV (K:Frag):Sp:=λvs H Q _=>∃(a:Addr) (ns:List Int),vs=[.ref a]/\bo K H a (ns.map V.int)/\Only H/\ns.length<=63/\∀H',Q (.bl true) H'
theorem B6 {K:Frag}{mg:Ab}{ρ:Ae}{H:Hp}:∀ns:List Int,Rs K mg ρ H (ns.map PV.int) (ns.map V.int)
 | []=>rfl
 | n::ns=>⟨_,_,rfl,rfl,B6 ns⟩
def LB {K:Frag}{H:Hp}{a:Addr}{vs:List V}(h:bo K H a vs) (o:Only H):g9 K H a vs:=by
 rcases h with (h|⟨ob,h⟩)|h
 ·rcases o a with z|⟨ob,xs,z⟩
  ·rw [h] at z;cases z
  ·rw [h] at z;cases z
 ·exact .inl ⟨ob,h⟩
 ·exact .inr h
def LC {P:Program}{w:World}{K:Frag}{mg:Ab}{base:Heap}{k:Nat}{f:Addr}{fd:FuncData}{ps:Ad}{m:Al}(F:bp P w K mg base (bT P w) k f fd ps (gp K mg m)) (h:∀ns:List Int,ns.length<=63->∃st,m [.frl (ns.map PV.int)] []=.ok (.bl true) st):bp P w K mg base (bT P w) k f fd ps (hV K) :=
 F.imp λvs H Q E ⟨a,ns,e,hs,ho,hl,q⟩=>by
  subst e
  obtain ⟨st,hm⟩:=h ns hl
  refine ⟨[.frl (ns.map PV.int)],[],[],⟨_,[],rfl,⟨a,_,rfl,LB hs ho,B6 ns⟩,rfl⟩,⟨rfl,List.nodup_nil,λn so e=>by simp at e⟩,?_⟩
  rw [hm]
  intro aj H' _ _ v rv
  cases rv
  exact q H'
def walkM {l:PySem.W.OpenLaw}{k:Nat}{x:Str}{q:Program}{loose:Ad}{XP:(Ab)->Heap->Prop}{YP:World->Heap->Prop}{d:DefRec}{K:Params->PySem.W.Frag}(hn:l.most=some 63) (nJ:d.params.defaults=[]) (hr:aW k callerA)
  (hY:∀(w:World) (h:Heap),YP w h->(K w.params).In h)
  (F:∀(w:World) (mg:Ab) (fa:Addr) (h:Heap),(K w.params).In h->h.Ns mainGlobals mg->mg d.name=some (.ref fa) ->
   ∃fd:FuncData,(∀(s:Shared) (u:Value),BindsTo s fd ⟨[u],[]⟩ [(x,u)])/\∀base:Heap,(K w.params).In base->base.Ns mainGlobals mg->bp l.prog w (K w.params) mg base (bT l.prog w) k fa fd [x] (hV (K w.params))) :
  PySem.W.WalkO q loose XP YP l.row.toRowW d [] (λf vs=>PySem.call f vs) :=
 L2.zn8 (n:=63) (k:=k) (x:=x) (CX:=λw=>bT l.prog w) (sp:=λw=>hV (K w.params)) hn (by decide) nJ hr hY F (λ_ _ a ns hl ho hS=>⟨a,ns,rfl,hS,ho,hl,λ_=>rfl⟩) λw H s e s' ⟨_,_,_,_,_,_,_,_,_,_,_,_,_,_,_,z⟩=>z
section
variable {α β:Type}{env:zc}{st ae:ao}{fa fb fc fo fv:Ai}{fs:Ah}{ga gb:Ak}{g g':Aj}{op cv:Am}{o1:PV->Mo PV}{m:Al}
@[simp] def zL (a:α) (f:α->Mo β):(Res.ok a st).bind f=f a st:=(rfl)
@[simp] def wV (c:Str) (ks:Ad) (xs:An) (f:α->Mo β):(Res.err c ks xs st:Res α).bind f=.err c ks xs st:=(rfl)
@[simp] def LD (i:Nat):zd i env st=(match env[i]? with|some (some x)=>.ok x st|_=>.stuck):=(rfl)
@[simp] def Wd (x:PV):mC x env st=.ok x st:=(rfl)
@[simp] def LF:zh op fa fb env st=(fa env st).bind λx ae=>(fb env ae).bind λy av=>op x y av:=(rfl)
@[simp] def LG:zX o1 fa env st=(fa env st).bind o1:=(rfl)
@[simp] def LH:mB fa env st=(fa env st).bind g_:=(rfl)
@[simp] def B7 (b:Bool):g_ (.bl b) st=.ok b st:=(rfl)
@[simp] def We:kP ga gb env st=(ga env st).bind λc ae=>if c=true then gb env ae else .ok false ae:=(rfl)
@[simp] def LI:mx ga gb env st=(ga env st).bind λc ae=>if c=true then .ok true ae else gb env ae:=(rfl)
@[simp] def LJ:iJ ga env st=(ga env st).bind λc ae=>.ok (!c) ae:=(rfl)
@[simp] def LK:my fa fb env st=(fa env st).bind λx ae=>(g_ x ae).bind λc av=>if c=true then fb env av else .ok (.bl false) av:=(rfl)
@[simp] def Wf:zj env st=.ok [] st:=(rfl)
@[simp] def uN:ze fa fs env st=(fa env st).bind λx ae=>(fs env ae).bind λxs av=>.ok (x::xs) av:=(rfl)
@[simp] def B8:zG fs env st=(fs env st).bind λxs ae=>if xs.length<=lim then .ok (.tup xs) ae else .stuck:=(rfl)
@[simp] def LL:jF fs env st=(fs env st).bind λxs ae=>if xs.length<=lim then .ok (.ref ae.length) (ae++[.lst xs]) else .stuck:=(rfl)
@[simp] def LM (fl fu:zc->Mo (Option Int)):iO fa fl fu env st=(fa env st).bind λx ae=>(fl env ae).bind λl av=>(fu env av).bind λu a_=>qx x l u a_:=(rfl)
@[simp] def LN:c_ fa env st=(fa env st).bind uA:=(rfl)
@[simp] def LO (i:Int):uA (.int i) st=.ok (some i) st:=(rfl)
@[simp] def LP:zt m fs env st=(fs env st).bind m:=(rfl)
@[simp] def Wg (C:Int->Int->Bool) (f:Int->Int->Int) (i j:Int):opI C f (.int i) (.int j) st=if C i j=true then .ok (.int (f i j)) st else .stuck:=(rfl)
@[simp] def Wi (f:Int->Int->Bool) (i j:Int):oj f (.int i) (.int j) st=.ok (.bl (f i j)) st:=(rfl)
@[simp] def LQ (x y:Str):yo (.str x) (.str y) st=if x.length+y.length<=lim then .ok (.str (x++y)) st else .stuck:=(rfl)
@[simp] def Wj (x:PV):bP (some x) st=.ok x st:=(rfl)
@[simp] def LR (xs:An) (l u:Option Int):qx (.frl xs) l u st=.ok (.ref st.length) (st++[.lst (di xs l u)]):=(rfl)
@[simp] def LS (n:Nat):om [.ref n] st=yp st n λxs=>.ok (.int xs.length) st:=(rfl)
@[simp] def Wk (x y:PV):yq x y st=if plain x=true/\plain y=true/\dep x<=150 then .ok (.bl (bz x y)) st else .stuck:=(rfl)
@[simp] def Wl (x y:PV):wC x y st=if plain x=true/\plain y=true/\dep x<=150 then .ok (.bl (!bz x y)) st else .stuck:=(rfl)
@[simp] def LU:z0 env st=.ok (.nx env) st:=(rfl)
@[simp] def uO:zA g g' env st=(g env st).bind (fX g'):=(rfl)
@[simp] def LV:fX g (.nx env) st=g env st:=(rfl)
@[simp] def LW (x:PV):fX g (.rt x) st=.ok (.rt x) st:=(rfl)
@[simp] def B9 (i:Nat):zO i fa env st=(fa env st).bind λx ae=>.ok (.nx (env.set i (some x))) ae:=(rfl)
@[simp] def B_:yX fa env st=(fa env st).bind λ_ ae=>.ok (.nx env) ae:=(rfl)
@[simp] def Ca:zH fa env st=(fa env st).bind λx ae=>.ok (.rt x) ae:=(rfl)
@[simp] def Cb:zV ga g g' env st=(ga env st).bind λc ae=>if c=true then g env ae else g' env ae:=(rfl)
@[simp] def LX (c f:Str):jL c f fa env st=(fa env st).bind λx ae=>.err c [f] [x] ae:=(rfl)
@[simp] def Wm (i j:Nat) (x y:PV):g2 i j (.tup [x,y]) env=some ((env.set i (some x)).set j (some y)):=(rfl)
@[simp] def LY (x:PV):endOf (.rt x) st=.ok x st:=(rfl)
@[simp] def Wn (e:zc):endOf (.nx e) st=.ok .non st:=(rfl)
@[simp] def kU:yH fa env st=(fa env st).bind kS:=(rfl)
@[simp] def uP (n:Nat):kS (.ref n) st=yp st n λ_=>.ok (.rf n) st:=(rfl)
@[simp] def LZ:mH fs env st=(fs env st).bind oy:=(rfl)
@[simp] def Wo (xs ys:An):oy [.tup xs,.tup ys] st=.ok (.im (iQ xs ys)) st:=(rfl)
@[simp] def qH (src:zc->Mo Sq) (gt:PV->zc->Option zc):jo src gt g env st=(src env st).bind λq ae=>ou gt g q env ae:=(rfl)
@[simp] def L3 (gt:PV->zc->Option zc) (xs:An):ou gt g (.im xs) env st=forL gt g xs env st:=(rfl)
@[simp] def Wq (gt:PV->zc->Option zc):forL gt g [] env st=.ok (.nx env) st:=(rfl)
@[simp] def Wr (i:Int):Mi.plain (.int i)=true:=(rfl)
@[simp] def Ws (x:Str):Mi.plain (.str x)=true:=(rfl)
@[simp] def Wt (i:Int):dep (.int i)=0:=(rfl)
@[simp] def Wu (x:Str):dep (.str x)=0:=(rfl)
@[simp] def Wv (a b:Int):bz (.int a) (.int b)=(a==b):=(rfl)
@[simp] def Ww (a b:Str):bz (.str a) (.str b)=(a==b):=(rfl)
@[simp] def jM (a:α):bE (Res.ok a st)=.ok a st:=(rfl)
@[simp] def Wx:fI .non=true:=(rfl)
def yK {n:Nat}{xs:An}(h:st[n]?=some (.lst xs)) (k:List PV->Res α):yp st n k=k xs:=by unfold yp;rw [h]
def uQ {n:Nat}{c:Str}{ks:Ad}{xs:An}(h:st[n]?=some (.ins c ks xs)) (k:Str->List Str->List PV->Res α):jf st n k=k c ks xs:=by unfold jf;rw [h]
@[simp] def L4 (f:Str) (i x:Str->Bool) (n:Nat):aM f i x (.ref n) st=jf st n λc ks xs=>if i c=true then bP ((ks.zip xs).lookup f) st else .stuck:=(rfl)
@[simp] def L5 (f:Str) (i x:Str->Bool) (c:Str) (ks:Ad) (xs:An):aM f i x (.exo c ks xs) st=if x c=true then bP ((ks.zip xs).lookup f) st else .stuck:=(rfl)
@[simp] def Wy (ks:Ad) (ps:An) (z:Str):iR ks ps (.str z) st=bP ((ks.zip ps).lookup z) st:=(rfl)
@[simp] def Wz (tab:Str->Option (Al)):uC tab fa fs env st=(fa env st).bind λf ae=>match f with | .fn x=>(match tab x with|some m=>(fs env ae).bind m|none=>.stuck)|_=>.stuck:=(rfl)
@[simp] def L6 (f:Str) (i:Str->Bool):Mi.sFld f i fo fv env st=(fv env st).bind λx ae=>(fo env ae).bind λo av=>(putAt f i x o av).bind λ_ a_=>.ok (.nx env) a_:=(rfl)
@[simp] def Cc:y4 op fo fv env st=(fo env st).bind λo ae=>(iS o ae).bind λo ae=>(fv env ae).bind λy av=>op o y av:=(rfl)
@[simp] def Cd (n:Nat):iS (.ref n) st=yp st n λ_=>.ok (.ref n) st:=(rfl)
@[simp] def L7 (a b:String):(Str.ofString a=Str.ofString b)↔a=b:=by
 constructor
 ·intro h
  rw [Str.ofString_eq_byList] at h
  have h1:(a.toList.map Char.toNat)=(b.toList.map Char.toNat):=by
   have:=congrArg (λz=>z.cps.toList) h
   simpa [Str.ofStringByList] using this
  apply String.ext_iff.mpr
  exact (List.map_inj_right (λc d e=>Char.toNat_inj.mp e)).mp h1
 ·intro h;rw [h]
@[simp] def WA (a b:String):(Str.ofString a==Str.ofString b)=(a==b):=by
 rw [Bool.eq_iff_iff];simp
def uR (n:Nat):bO ga g (n+1) env st=(ga env st).bind λc ae=>if c=true then (g env ae).bind λfl av=>match fl with
   | .nx e=>bO ga g n e av
   | .ct e=>bO ga g n e av
   | .bk e=>.ok (.nx e) av
   | .rt v=>.ok (.rt v) av
  else .ok (.nx env) ae:=rfl
@[simp] def WB:lim=1000000:=(rfl)
@[simp] def WC (f:Str) (i:Str->Bool) (x:PV) (n:Nat):Mi.putAt f i x (.ref n) st=jf st n λc ks xs=>if i c=true/\ks.length<1000 then .ok () (st.set n (.ins c (putK f x ks xs).1 (putK f x ks xs).2)) else .stuck:=(rfl)
end
section
variable {K:Frag}{mg:Ab}{h:Heap}{x:Str}{f C:Addr}{oc:Value}{od an:Option Addr}{eQ:Array (Option Value)}{kV doc pm aX ct:Value}{sm:Stmt}{ps:Ad}
def yc (X:K.In h) (G:h.Ns mainGlobals mg) (a:nsIn K mainGlobals x=some (some (.ref f))) (l:K.lookup f=some ⟨oc,od,.func (fnOf x x (j0 sm) (je sm) (zD sm) .none kV doc pm an aX ct),eQ⟩) (c:codeIn K aX x=true) (k:keepIn K (.ref f)=true)
  (b:∀(kV doc pm:Value) (an:Option Addr) (aX ct:Value) (us:Af),us.length=ps.length->bindArgs (fnOf x x (j0 sm) (je sm) (zD sm) .none kV doc pm an aX ct) ⟨us,[]⟩=pure (ps.zip us)):FnF K mg x sm ps :=
 ⟨f,_,mg_of X G a,iC l c k,(iC l c k).binds b⟩
def jv {c name qual:Str} (X:K.In h) (G:h.Ns mainGlobals mg) (aC:nsIn K mainGlobals c=some (some (.ref C))) (pg:plainGet K C Str.empty=true) (hd:hasDictIn K C=true) (po:plainOver K C=true) (sa:findIn K (.ref C) "__setattr__" = some (some (.builtin "object.__setattr__")))
  (a:findIn K (.ref C) name=some (some (.ref f))) (i:isFn K (.ref f)=true) (l:K.lookup f=some ⟨oc,od,.func (fnOf name qual (j0 sm) (je sm) (zD sm) .none kV doc pm an aX ct),eQ⟩) (cd:codeIn K aX qual=true) (k:keepIn K (.ref f)=true)
  (b:∀(kV doc pm:Value) (an:Option Addr) (aX ct:Value) (us:Af),us.length=ps.length->bindArgs (fnOf name qual (j0 sm) (je sm) (zD sm) .none kV doc pm an aX ct) ⟨us,[]⟩=pure (ps.zip us)):MtF K mg c name qual sm ps :=
 ⟨C,f,_,mg_of X G aC,⟨pg,hd,po,sa⟩,⟨a,i,k⟩,iC l cd k,(iC l cd k).binds b⟩
def zbi {c qual:Str}(X:K.In h) (G:h.Ns mainGlobals mg) (aC:nsIn K mainGlobals c=some (some (.ref C))) (mk:makesIn K C=true) (kc:keepIn K (.ref C)=true)
  (a:findIn K (.ref C) "__init__" = some (some (.ref f))) (i:isFn K (.ref f)=true) (l:K.lookup f=some ⟨oc,od,.func (fnOf "__init__" qual (j0 sm) (je sm) (zD sm) .none kV doc pm an aX ct),eQ⟩) (cd:codeIn K aX qual=true) (k:keepIn K (.ref f)=true)
  (b:∀(kV doc pm:Value) (an:Option Addr) (aX ct:Value) (us:Af),us.length=ps.length->bindArgs (fnOf "__init__" qual (j0 sm) (je sm) (zD sm) .none kV doc pm an aX ct) ⟨us,[]⟩=pure (ps.zip us)):NwF K mg c qual sm ps :=
 ⟨C,f,_,mg_of X G aC,⟨mk,a,i,kc⟩,iC l cd k,(iC l cd k).binds b⟩
def L8 {cd:ClassData}(h:clsIn K C=some cd) (v:cw cd.mro=true):eY K C=true:=by unfold eY;rw [h];exact v
def zcW {c fld qual:Str}{B N:Addr}{nm q:Str}{bs:Af}{cj:Bool}{sn:Ad}{sub:Af}{ab:Bool}{col:Option Bool}{dd:Option Addr}{k0 k1 k2 k3 k5:Option Value}{cc:Value}{d:Option Addr}{es:Array DictEntry}{n:Nat}{sl:Array (Option Value)}{Ce:ClassData}
  (X:K.In h) (G:h.Ns mainGlobals mg) (aC:nsIn K mainGlobals c=some (some (.ref C)))
  (hC:K.lookup C=some (excClassObj nm q C N bs (.ref B::c6) cj sn sub ab col dd k0 k1 k2 k3 k5 "ValueError.__new__")) (hB:excIn K B c6 "ValueError.__new__" = true)
  (hN:K.lookup N=some ⟨cc,d,.dict es n,sl⟩) (he:(es.all λe=>match e.key with | .str _ _=>true|_=>false)=true) (hi:nsIn K N "__init__" = some (some (.ref f))) (fn:isFn K (.ref f)=true) (kp:keepIn K (.ref C)=true)
  (sa:findIn K (.ref C) "__setattr__" = some (some (.builtin "object.__setattr__"))) (hcl:clsIn K C=some Ce) (hl:cw Ce.mro=true) (no:takerIn K C fld=some none) (L9:hasDictIn K C=true)
  (l:K.lookup f=some ⟨oc,od,.func (fnOf "__init__" qual (j0 sm) (je sm) (zD sm) .none kV doc pm an aX ct),eQ⟩) (Cf:codeIn K aX qual=true) (k:keepIn K (.ref f)=true)
  (b:∀(kV doc pm:Value) (an:Option Addr) (aX ct:Value) (us:Af),us.length=[("self" : Str),fld].length->bindArgs (fnOf "__init__" qual (j0 sm) (je sm) (zD sm) .none kV doc pm an aX ct) ⟨us,[]⟩=pure ([("self" : Str),fld].zip us)):XnF K mg c fld qual sm :=
 ⟨C,f,_,mg_of X G aC,e_.mk' hC hB hN he hi fn kp,⟨sa,L8 hcl hl,no,L9⟩,iC l Cf k,(iC l Cf k).binds b⟩
def zS {c fld:Str} (X:K.In h) (G:h.Ns mainGlobals mg) (aC:nsIn K mainGlobals c=some (some (.ref C))) (pg:plainGet K C Str.empty=true) (hd:hasDictIn K C=true) (po:plainOver K C=true) (sa:findIn K (.ref C) "__setattr__" = some (some (.builtin "object.__setattr__"))) (na:findIn K (.ref C) fld=some none) :
  ∃C,mg c=some (.ref C)/\eP K C/\cY K C fld:=⟨C,mg_of X G aC,⟨pg,hd,po,sa⟩,na⟩
def yi {c fld:Str} (X:K.In h) (G:h.Ns mainGlobals mg) (aC:nsIn K mainGlobals c=some (some (.ref C))) (ga:findIn K (.ref C) "__getattribute__" = some (some (.builtin "BaseException.__getattribute__"))) (hk:findIn K (.ref C) "__getattr__" = some none) (hB:mroIn K C (.type "BaseException")=some true)
  (hd:hasDictIn K C=true) (no:findIn K (.ref C) fld=some none):∃C,mg c=some (.ref C)/\gn K C/\hasDictIn K C=true/\findIn K (.ref C) fld=some none:=⟨C,mg_of X G aC,⟨ga,hk,hB⟩,hd,no⟩
def zqy {α:Type}{P:α->Prop}:∀p∈([]:List α),P p:=λ_ h=>nomatch h
def all_cons {α:Type}{P:α->Prop}{a:α}{l:List α}(h:P a) (t:∀p∈l,P p):∀p∈a::l,P p:=λp hp=>by
 rcases yE.mp hp with rfl|hp
 ·exact h
 ·exact t p hp
theorem Cg {α β:Type} [BEq α] [LawfulBEq α] {a:α}{b:β}:∀{l:List (α×β)},l.lookup a=some b->(a,b)∈l
 | [],h=>by simp at h
 | (c,d)::l,h=>by
  rw [wa] at h
  split at h
  ·rename_i e;cases h;rw [eq_of_beq e];simp
  ·exact jr _ (Cg h)
def wE {O t t2:Addr} {wd k1 k2 y:Str} {u1 u2:Tok} {n n2:Nat} {oB:Option Addr} {sl fD:Array (Option Value)} (X:K.In h) (G:h.Ns mainGlobals mg) (e:nsIn K O wd=some (some (.ref t))) (l1:K.lookup t=some ⟨.type "tuple", od,.seq #[.ref t2,.ref f] n,sl⟩)
  (l2:K.lookup t2=some ⟨.type "tuple", oB,.seq #[.str k1 u1,.str k2 u2] n2,fD⟩) (a:nsIn K mainGlobals y=some (some (.ref f))):∃u v,nsIn K O wd=some (some u)/\RelV v u/\∀ρ H,R K mg ρ H (.tup [.tup [.str k1,.str k2],.fn y]) v:=by
 refine ⟨_,.ref t,e,rfl,mJ (xs:=[.tup [.str k1,.str k2],.fn y]) (vs:=[.ref t2,.ref f]) l1 rfl (by simp) (.cons rfl (.cons rfl .nil)) fun ρ H=>?_⟩
 exact ⟨_,_,rfl,mJ (xs:=[.str k1,.str k2]) (vs:=[.str k1,.str k2]) l2 rfl (by simp) (.cons ⟨_,rfl⟩ (.cons ⟨_,rfl⟩ .nil)) (fun ρ H=>⟨_,_,rfl,rfl,_,_,rfl,rfl,rfl⟩) ρ H,_,_,rfl,⟨f,rfl,mg_of X G a⟩,rfl⟩
def zbV {O t t2:Addr} {wd k1 y:Str} {u1:Tok} {n n2:Nat} {oB:Option Addr} {sl fD:Array (Option Value)} (X:K.In h) (G:h.Ns mainGlobals mg) (e:nsIn K O wd=some (some (.ref t))) (l1:K.lookup t=some ⟨.type "tuple", od,.seq #[.ref t2,.ref f] n,sl⟩)
  (l2:K.lookup t2=some ⟨.type "tuple", oB,.seq #[.str k1 u1] n2,fD⟩) (a:nsIn K mainGlobals y=some (some (.ref f))):∃u v,nsIn K O wd=some (some u)/\RelV v u/\∀ρ H,R K mg ρ H (.tup [.tup [.str k1],.fn y]) v:=by
 refine ⟨_,.ref t,e,rfl,mJ (xs:=[.tup [.str k1],.fn y]) (vs:=[.ref t2,.ref f]) l1 rfl (by simp) (.cons rfl (.cons rfl .nil)) fun ρ H=>?_⟩
 exact ⟨_,_,rfl,mJ (xs:=[.str k1]) (vs:=[.str k1]) l2 rfl (by simp) (.cons ⟨_,rfl⟩ .nil) (fun ρ H=>⟨_,_,rfl,rfl,rfl⟩) ρ H,_,_,rfl,⟨f,rfl,mg_of X G a⟩,rfl⟩
end
def zqz {P:Program}{w:World}{K:Frag}{mg:Ab}{x y:Str}{sm:Stmt}{fa:Addr}{k:Nat}{m:Al}(h:FnF K mg x sm [y]) (hmg:mg x=some (.ref fa))
  (hb:∀(kV doc pm:Value) (an:Option Addr) (aX ct:Value) (u:Value),bindArgs (fnOf x x (j0 sm) (je sm) (zD sm) .none kV doc pm an aX ct) ⟨[u],[]⟩=pure [(y,u)])
  (hok:∀(f:Addr) (fd:FuncData),dJ K x x sm f fd->∀base:Heap,bp P w K mg base (bT P w) k f fd [y] (gp K mg m)) (hp:∀ns:List Int,ns.length<=63->∃st,m [.frl (ns.map PV.int)] []=.ok (.bl true) st) :
  ∃fd:FuncData,(∀(s:Shared) (u:Value),BindsTo s fd ⟨[u],[]⟩ [(y,u)])/\∀base:Heap,K.In base->base.Ns mainGlobals mg->bp P w K mg base (bT P w) k fa fd [y] (hV K):=by
 obtain ⟨f,fd,hm,F,_⟩:=h
 rw [hmg] at hm
 cases hm
 refine ⟨fd,λs u=>?_,λbase _ _=>LC (hok fa fd F base) hp⟩
 obtain ⟨oc,od,kV,doc,pm,an,aX,ct,eQ,rfl,_⟩:=F.ex
 exact .of_eq (hb kV doc pm an aX ct u)
def ziS {K:Frag}{mg:Ab}{h:Heap}{x:Str}{i:Int}{t:Tok}(X:K.In h) (G:h.Ns mainGlobals mg) (a:nsIn K mainGlobals x=some (some (.int i t))):∃t,mg x=some (.int i t):=⟨t,mg_of X G a⟩
def wF {K:Frag}{mg:Ab}{h:Heap}{x:Str}(X:K.In h) (G:h.Ns mainGlobals mg) (a:nsIn K mainGlobals x=some none):mg x=none:=mg_none_of X G a
section
variable {X:Cx}{Er:XK}{K:Frag}{mg:Ab}{a b c e o:Expr}{es:List Expr}{pos p apos pos':Pos}{fa fb fc fo:Ai}{fs:Ah}
abbrev kz (ks:Ad) (vs:List V):List (Key×V):=(ks.map Sum.inr).zip vs
theorem uS {z:Str}:∀{ks:Ad}{vs:List V},cT (kz ks vs) (Sum.inr z)=(ks.zip vs).lookup z
 | [],_=>by simp [kz,cT]
 | k::ks,[]=>by simp [kz,cT]
 | k::ks,v::vs=>by
  have ih:=uS (z:=z) (ks:=ks) (vs:=vs)
  by_cases h:k=z
  ·subst h
   rw [show kz (k::ks) (v::vs)=(Sum.inr k,v)::kz ks vs from rfl,qc rfl]
   simp [wa]
  ·rw [show kz (k::ks) (v::vs)=(Sum.inr k,v)::kz ks vs from rfl,qd (by simpa using h),ih]
   have:(z==k)=false:=by simpa using λq=>h q.symm
   simp [wa,this]
theorem Ci {z:Str}:∀{ks:Ad}{vs:List V},ks.length=vs.length->((kz ks vs).any λkv=>decide (kv.1=Sum.inr z))=ks.contains z
 | [],_,_=>by simp [kz]
 | k::ks,[],h=>by simp at h
 | k::ks,v::vs,h=>by
  have ih:=Ci (z:=z) (ks:=ks) (vs:=vs) (by simpa using h)
  rw [show kz (k::ks) (v::vs)=(Sum.inr k,v)::kz ks vs from rfl,List.any_cons,ih,List.contains_cons]
  congr 1
  by_cases hz:k=z
  ·subst hz;simp
  ·have:(z==k)=false:=by simpa using λq=>hz q.symm
   simp [hz,this]
def repl {α:Type}(z:Str) (x:α):List Str->List α->List α
 | k::ks,y::ys=>(if k=z then x else y)::repl z x ks ys
 | _,ys=>ys
def jH (z:Str) (x:PV) (ks:Ad) (xs:An):List Str×List PV:=if ks.contains z=true then (ks,repl z x ks xs) else (ks++[z],xs++[x])
theorem Cj {z:Str}{v:V}:∀{ks:Ad}{vs:List V},(kz ks vs).map (λkv=>if kv.1=Sum.inr z then (kv.1,v) else kv)=kz ks (repl z v ks vs)
 | [],_=>by simp [kz]
 | k::ks,[]=>by simp [kz,repl]
 | k::ks,w::vs=>by
  rw [show kz (k::ks) (w::vs)=(Sum.inr k,w)::kz ks vs from rfl,yQ,Cj,show repl z v (k::ks) (w::vs)=(if k=z then v else w)::repl z v ks vs from rfl,show ∀u us,kz (k::ks) (u::us)=(Sum.inr k,u)::kz ks us from λ_ _=>rfl]
  by_cases h:k=z
  ·subst h;simp
  ·rw [zF (by simpa using h),zF h]
theorem Ck {ρ:Ae}{H:Hp}{z:Str}{x:PV}{v:V}(r:R K mg ρ H x v):∀{ks:Ad}{xs:An}{vs:List V},Rs K mg ρ H xs vs->Rs K mg ρ H (repl z x ks xs) (repl z v ks vs)
 | [],xs,vs,h=>by cases xs<;>cases vs<;>exact h
 | k::ks,[],vs,h=>by cases h;exact rfl
 | k::ks,y::ys,vs,h=>by
  obtain ⟨w,ws,rfl,h1,h2⟩:=h
  refine ⟨_,_,rfl,?_,Ck r h2⟩
  split
  ·exact r
  ·exact h1
theorem Cm {α:Type}{z:Str}{x:α}:∀{ks:Ad}{xs:List α},(repl z x ks xs).length=xs.length
 | [],xs=>by cases xs<;>rfl
 | k::ks,[]=>rfl
 | k::ks,y::ys=>by simp [repl,Cm (ks:=ks)]
def uT {ρ:Ae}{H:Hp}{z:Str}{x:PV}{v:V}(r:R K mg ρ H x v) {ks:Ad}{xs:An}{vs:List V}(hl:ks.length=vs.length) (h:Rs K mg ρ H xs vs):∃ws,L2.putK (kz ks vs) (Sum.inr z) v=kz (jH z x ks xs).1 ws/\Rs K mg ρ H (jH z x ks xs).2 ws/\(jH z x ks xs).1.length=ws.length:=by
 unfold L2.putK jH
 rw [Ci hl]
 by_cases hc:ks.contains z=true
 ·rw [zu hc,zu hc]
  exact ⟨repl z v ks vs,Cj,Ck r h,by rw [Cm];exact hl⟩
 ·rw [zF hc,zF hc]
  refine ⟨vs++[v],?_,h.append ⟨v,[],rfl,r,rfl⟩,by simp [hl]⟩
  show _=(List.map Sum.inr (ks++[z])).zip (vs++[v])
  rw [lW,List.zip_append (by simpa using hl)]
  rfl
def kW:Ai:=λ_ st=>.ok (.ref st.length) (st++[.dic [] []])
def zbj:ME X Er (.Dict [] [] pos) kW:=PE.weak Jl λU H Q ⟨env,st,ρ,re,rs,h⟩=>λq hq =>
 h (ρ++[q]) _ (Ext.push hq) (rs.push hq ⟨[],yx,rfl,rfl⟩) _ ⟨q,rfl,by rw [<-rs.len];simp⟩
def L_:Am
 | .ref n,.str z,st=>yW st n λks xs=>bP ((ks.zip xs).lookup z) st
 | _,_,_=>.stuck
def zq:Am
 | .ref n,.str z,st=>L_ (.ref n) (.str z) st
 | x,y,st=>uq x y st
def Ma:R2:=λx y H Q=>∃a v,x=.ref a/\dC H a y (some v)/\Q v H
def Mb (hu:X.A.units+1<cLine):eV X Ma:=by
 intro value slice pins s U H x y v u Q I rx ry h hs
 obtain ⟨a,w,rfl,g,q⟩:=h
 obtain rfl:v=Value.ref a:=rx
 exact PyProof.Rows.tail_any (Jg I g) PySem.F.slot_dict_getitem.lookup (Jc hu I g ry λw' s' I' c9=>⟨w,H,I',c9,q⟩) hs
def R.refD {ρ:Ae}{H:Hp}{st:ao}{n:Nat}{ks:Ad}{xs:An}{v:V}(s:bf K mg ρ H st) (r:R K mg ρ H (.ref n) v) (h:st[n]?=some (.dic ks xs)):∃a vs,v=.ref a/\ρ[n]?=some a/\H a=some (.dK (kz ks vs))/\Rs K mg ρ H xs vs/\ks.length=vs.length:=by
 obtain ⟨a,rfl,ha⟩:=r
 obtain ⟨vs,h1,h2,h3⟩:=s.addr h ha
 exact ⟨a,vs,rfl,ha,h1,h2,h3⟩
def Cn {H:Hp}{a:Addr}{ks:Ad}{vs:List V}{z:Str}(h:H a=some (.dK (kz ks vs))):dC H a (.str z) ((ks.zip vs).lookup z):=by
 have g:=dC.k (k:=Sum.inr z) h
 rw [uS] at g
 exact g
theorem zx (hu:X.A.units+200<cLine):iK X zq:=by
 obtain ⟨r,h1,h2⟩:=KH (X:=X)
 refine ⟨_,h1.or (Mb (by omega)),fun ρ H st x y v w Q E s rx ry h=>?_⟩
 by_cases hx:∃n z,x=.ref n/\y=.str z
 ·obtain ⟨n,z,rfl,rfl⟩:=hx
  obtain ⟨ks,xs,e,h⟩:=qu (show Out X.K X.mg ρ H (yW st n λks xs=>bP ((ks.zip xs).lookup z) st) (gV X.K X.mg Q) E from h)
  obtain ⟨q,hq,h⟩:=iM h
  obtain ⟨a,vs,rfl,_,k1,k2,_⟩:=R.refD s rx e
  cases ry
  obtain ⟨v,hv,rv⟩:=mE k2 hq
  refine .inr ⟨a,v,rfl,?_,h.now s _ rv⟩
  have g:=Cn (z:=z) k1
  rw [hv] at g
  exact g
 ·refine .inl (h2 ρ H st x y v w Q E s rx ry ?_)
  have:zq x y st=uq x y st:=by
   unfold zq
   split
   ·rename_i n z;exact absurd ⟨n,z,rfl,rfl⟩ hx
   ·rfl
  rw [this] at h
  exact h
def jB (z x:PV):PV->Mo Unit
 | .ref n,st=>match z with
  | .str z=>yW st n λks xs=>if ks.length<lim then .ok () (st.set n (.dic (jH z x ks xs).1 (jH z x ks xs).2)) else .stuck
  | _=>.stuck
 | _,_=>.stuck
def jU (fo fi fv:Ai):Aj:=λenv st=>(fv env st).bind λx ae=>(fo env ae).bind λo av=>(fi env av).bind λz a_=>(jB z x o a_).bind λ_ dN=>.ok (.nx env) dN
theorem zaq {i value:Expr}{fi fv:Ai}(hu:X.A.units+200<cLine) (ho:ME X Er o fo) (hi:ME X Er i fi) (hv:ME X Er value fv) (hs:swapsWith value (some (.Subscript o i pos')) pos.line X.env=pure false:=by rfl):MS X Er (.Assign [.Subscript o i pos'] value pos) (jU fo fi fv) :=
 PS.weak (Ji (by omega) ho hi hv hs) λD U H ⟨env,st,ρ,re,rs,h⟩=>⟨env,st,ρ,re,rs,h.then λag H1 x ae e1 s1 h1 v rv=>⟨env,ae,ag,re.ext e1,s1,h1.then λam H2 y av e2 s2 h2 w rw=>⟨env,av,am,(re.ext e1).ext e2,s2,h2.then λal H3 zz a_ e3 s3 h3 u ru=>by
  cases y with
  | ref n =>
   cases zz with
   | str z =>
    cases hn:a_[n]? with
    | none=>simp only [jB,yW,hn] at h3;exact h3.elim
    | some so =>
     cases so with
     | lst _=>simp only [jB,yW,hn] at h3;exact h3.elim
     | ins _ _ _=>simp only [jB,yW,hn] at h3;exact h3.elim
     | fdi _ _=>simp only [jB,yW,hn] at h3;exact h3.elim
     | dit _ _=>simp only [jB,yW,hn] at h3;exact h3.elim
     | dic ks xs =>
      simp only [jB,yW,hn] at h3
      by_cases hc:ks.length<lim
      ·rw [zu hc] at h3
       obtain ⟨a,vs,e4,ha,k1,k2,k3⟩:=R.refD s3 (R.ext e3 _ rw) hn
       subst e4
       cases ru
       obtain ⟨ws,q1,q2,q3⟩:=uT (z:=z) (R.ext e3 x (R.ext e2 x rv)) k3 k2
       have hlen:(kz ks vs).length<sizeLine:=by
        have:(kz ks vs).length=ks.length:=by simp [kz,k3]
        rw [this,sizeLine_eq]
        have:ks.length<1000000:=hc
        omega
       have g:=dD.k (k:=Sum.inr z) (v:=v) k1 hlen
       have ew:Ext al H3 al (upd H3 a (.dK (L2.putK (kz ks vs) (Sum.inr z) v))):=Ext.write k1 rfl
       refine ⟨a,_,rfl,g,h3 al _ ew (s3.write ha ew ⟨ws,by rw [yx,q1],Rs.ext ew _ q2,q3⟩) U ((((re.ext e1).ext e2).ext e3).ext ew)⟩
      ·rw [zF hc] at h3;exact h3.elim
   | _=>exact h3.elim
  | _=>exact h3.elim⟩⟩⟩
end
open Classical in
noncomputable def dk (K:Frag) (mg:Ab) (ρ:Ae) (H:Hp) (ys:An) (x:PV) (u:Value):Bool:=decide (∃y v,y∈ys/\R K mg ρ H y v/\RelV v u/\bz y x=true)
section
variable {X:Cx}{Er:XK}{K:Frag}{mg:Ab}{ρ:Ae}{pins:Ac}{U:L2.St}{H:Hp}{s:Shared}
def okIn (x:PV) (ys:An):Prop:=Mi.plain x=true/\bV ys=true/\dX ys<=150
instance (x:PV) (ys:An):Decidable (okIn x ys):=by unfold okIn;infer_instance
theorem Rs.mem:∀{xs:An}{vs:List V}{us:Af}{u:Value},Rs K mg ρ H xs vs->Vals vs us->u∈us->∃y v,y∈xs/\R K mg ρ H y v/\RelV v u
 | [],_,_,_,h,hv,hu=>by cases h;cases hv;cases hu
 | x::xs,_,_,u,h,hv,hu=>by
  obtain ⟨v,r,rfl,h1,h2⟩:=h
  cases hv with
  | cons r1 r2 =>
   rcases yE.mp hu with rfl|hu
   ·exact ⟨x,v,by simp,h1,r1⟩
   ·obtain ⟨y,w,q1,q2,q3⟩:=Rs.mem h2 r2 hu
    exact ⟨y,w,by simp [q1],q2,q3⟩
theorem Rs.mem':∀{xs:An}{vs:List V}{us:Af}{y:PV},Rs K mg ρ H xs vs->Vals vs us->y∈xs->∃u v,u∈us/\R K mg ρ H y v/\RelV v u
 | [],_,_,_,_,_,hy=>by cases hy
 | x::xs,_,_,y,h,hv,hy=>by
  obtain ⟨v,r,rfl,h1,h2⟩:=h
  cases hv with
  | cons r1 r2 =>
   rcases yE.mp hy with rfl|hy
   ·exact ⟨_,v,by simp,h1,r1⟩
   ·obtain ⟨u,w,q1,q2,q3⟩:=Rs.mem' h2 r2 hy
    exact ⟨u,w,by simp [q1],q2,q3⟩
def Mc {ys:An}{y:PV}(h:bV ys=true) (hy:y∈ys):Mi.plain y=true:=by
 obtain ⟨i,hi⟩:=List.getElem?_of_mem hy
 exact qv h hi
def Md {ys:An}{y:PV}(hy:y∈ys):dep y<=dX ys:=by
 obtain ⟨i,hi⟩:=List.getElem?_of_mem hy
 exact zev hi
open Classical in
theorem qI (I:Inv X pins U H s) {A:Around}(hu:A.units+200<cLine) {ys:An}{vs:List V}{us:Af}{x:PV}{w:V}{v:Value}(ok:okIn x ys) (ry:Rs X.K mg ρ H ys vs) (rv:Vals vs us) (rx:R X.K mg ρ H x w) (rw:RelV w v) :
  (∀u∈us,SeqAt.EqAt A.in1 s u v (dk X.K mg ρ H ys x u))/\us.any (dk X.K mg ρ H ys x)=ys.any λy=>bz y x:=by
 obtain ⟨px,py,hd⟩:=ok
 have one:∀y v' u,y∈ys->R X.K mg ρ H y v'->RelV v' u->SeqAt.EqAt A.in1 s u v (bz y x):=λy v' u hy r1 r2 =>
  (ur I 150 y x A.in1 (y6 (Md hy) hd) (Mc py hy) px r1 rx r2 rw (by rw [qw];omega)).1
 refine ⟨λu Co=>?_,?_⟩
 ·obtain ⟨y,v',q1,q2,q3⟩:=Rs.mem ry rv Co
  by_cases h:∃y v,y∈ys/\R X.K mg ρ H y v/\RelV v u/\bz y x=true
  ·have e:dk X.K mg ρ H ys x u=true:=by simpa [dk] using h
   obtain ⟨y2,v2,z1,z2,z3,z4⟩:=h
   rw [e,<-z4]
   exact one y2 v2 u z1 z2 z3
  ·have e:dk X.K mg ρ H ys x u=false:=by unfold dk;exact jR h
   rw [e]
   have:bz y x=false:=by
    cases hq:bz y x with
    | false=>rfl
    | true=>exact absurd ⟨y,v',q1,q2,q3,hq⟩ h
   rw [<-this]
   exact one y v' u q1 q2 q3
 ·rw [Bool.eq_iff_iff]
  simp only [List.any_eq_true]
  constructor
  ·rintro ⟨u,Co,he⟩
   have h:∃y v,y∈ys/\R X.K mg ρ H y v/\RelV v u/\bz y x=true:=by unfold dk at he;exact of_decide_eq_true he
   obtain ⟨y,v',z1,_,_,z4⟩:=h
   exact ⟨y,z1,z4⟩
  ·rintro ⟨y,hy,he⟩
   obtain ⟨u,v',q1,q2,q3⟩:=Rs.mem' ry rv hy
   exact ⟨u,q1,by unfold dk;exact il ⟨y,v',hy,q2,q3,he⟩⟩
def yI (neg:Bool):Am
 | x,.tup ys,st=>if okIn x ys then .ok (.bl (neg.xor (ys.any λy=>bz y x))) st else .stuck
 | x,.frl ys,st=>if okIn x ys then .ok (.bl (neg.xor (ys.any λy=>bz y x))) st else .stuck
 | x,.ref n,st=>match st[n]?,x with
  | some (.lst ys),x=>if okIn x ys then .ok (.bl (neg.xor (ys.any λy=>bz y x))) st else .stuck
  | some (.dic ks xs),.str z=>.ok (.bl (neg.xor ((ks.zip xs).lookup z).isSome)) st
  | _,_=>.stuck
 | .str ⟨⟨[c]⟩⟩,.str z,st=>.ok (.bl (neg.xor (decide (c∈z.cps.toList)))) st
 | _,_,_=>.stuck
def uU (K:Frag) (mg:Ab) (neg:Bool):R2:=λv w H Q =>
 (∃ρ x ys vs p,okIn x ys/\w=.ref p/\(bo K H p vs\/bg K H p vs)/\Rs K mg ρ H ys vs/\R K mg ρ H x v/\Q (.bl (neg.xor (ys.any λy=>bz y x))) H) \/
 (∃p o,w=.ref p/\dC H p v o/\Q (.bl (neg.xor o.isSome)) H)\/∃(c:Nat) (z:Str),v=.str ⟨#[c]⟩/\w=.str z/\Q (.bl (neg.xor (decide (c∈z.cps.toList)))) H
def Me (hu:X.A.units+200<cLine):ba X (compareOp .In) (uU X.K X.mg false):=by
 intro pins s U H x y v u Q I rx ry h
 rcases h with ⟨ρ,a,ys,vs,p,ok,rfl,hq,oE,ra,q⟩|⟨p,o,rfl,g,q⟩|⟨c,z,rfl,rfl,q⟩
 ·obtain rfl:u=Value.ref p:=ry
  rcases hq with hq|hq
  ·obtain ⟨its,r,pl,_⟩:=I.list hq
   obtain ⟨f1,f2⟩:=qI I hu ok oE r ra rx
   refine SeqAt.in_listAt (dk X.K X.mg ρ H ys a) pl.isList (λw hw=>f1 w (by simpa using hw)) ⟨.bl _,H,I,rfl,?_⟩
   rw [show its.toArray.any (dk X.K X.mg ρ H ys a)=its.any (dk X.K X.mg ρ H ys a) by simp,f2]
   simpa using q
  ·obtain ⟨its,r,pl,_⟩:=I.tuple hq
   obtain ⟨f1,f2⟩:=qI I hu ok oE r ra rx
   refine SeqAt.in_tupleAt (dk X.K X.mg ρ H ys a) pl (λw hw=>f1 w (by simpa using hw)) ⟨.bl _,H,I,rfl,?_⟩
   rw [show its.toArray.any (dk X.K X.mg ρ H ys a)=its.any (dk X.K X.mg ρ H ys a) by simp,f2]
   simpa using q
 ·obtain rfl:u=Value.ref p:=ry
  exact Jd (by omega) I g rx λs' I'=>⟨.bl o.isSome,H,I',rfl,by simpa using q⟩
 ·exact Ja pins s U H _ _ v u Q I rx ry ⟨c,z,rfl,rfl,by simpa using q⟩
def Mf (hu:X.A.units+200<cLine):ba X (compareOp .NotIn) (uU X.K X.mg true):=by
 intro pins s U H x y v u Q I rx ry h
 rcases h with ⟨ρ,a,ys,vs,p,ok,rfl,hq,oE,ra,q⟩|⟨p,o,rfl,g,q⟩|⟨c,z,rfl,rfl,q⟩
 ·obtain rfl:u=Value.ref p:=ry
  rcases hq with hq|hq
  ·obtain ⟨its,r,pl,_⟩:=I.list hq
   obtain ⟨f1,f2⟩:=qI I hu ok oE r ra rx
   refine SeqAt.notIn_listAt (dk X.K X.mg ρ H ys a) pl.isList (λw hw=>f1 w (by simpa using hw)) ⟨.bl _,H,I,rfl,?_⟩
   rw [show its.toArray.any (dk X.K X.mg ρ H ys a)=its.any (dk X.K X.mg ρ H ys a) by simp,f2]
   simpa using q
  ·obtain ⟨its,r,pl,_⟩:=I.tuple hq
   obtain ⟨f1,f2⟩:=qI I hu ok oE r ra rx
   refine SeqAt.notIn_tupleAt (dk X.K X.mg ρ H ys a) pl (λw hw=>f1 w (by simpa using hw)) ⟨.bl _,H,I,rfl,?_⟩
   rw [show its.toArray.any (dk X.K X.mg ρ H ys a)=its.any (dk X.K X.mg ρ H ys a) by simp,f2]
   simpa using q
 ·obtain rfl:u=Value.ref p:=ry
  exact Je (by omega) I g rx λs' I'=>⟨.bl (!o.isSome),H,I',rfl,by simpa using q⟩
 ·refine L2.znU pins s U H _ _ v u Q I rx ry ⟨_,_,rfl,rfl,?_⟩
  rw [StrLaws.found_one]
  simpa using q
def Cp {neg:Bool}:dh K mg (uU K mg neg) (yI neg):=by
 intro ρ H st x y v w Q E s rx ry h
 cases y with
 | tup ys =>
  obtain ⟨p,vs,rfl,k1,k2⟩:=ry
  obtain ⟨ok,h⟩:=Out.ifp (show Out K mg ρ H (if okIn x ys then .ok (.bl (neg.xor (ys.any λy=>bz y x))) st else .stuck) (gV K mg Q) E from by cases x<;>exact h)
  exact .inl ⟨ρ,x,ys,vs,p,ok,rfl,.inr k1,k2,rx,h.now s _ rfl⟩
 | frl ys =>
  obtain ⟨p,vs,rfl,k1,k2⟩:=ry
  obtain ⟨ok,h⟩:=Out.ifp (show Out K mg ρ H (if okIn x ys then .ok (.bl (neg.xor (ys.any λy=>bz y x))) st else .stuck) (gV K mg Q) E from by cases x<;>exact h)
  exact .inl ⟨ρ,x,ys,vs,p,ok,rfl,.inl k1.sq,k2,rx,h.now s _ rfl⟩
 | ref n =>
  cases hn:st[n]? with
  | none=>exfalso;cases x<;>(simp only [yI,hn] at h;exact h)
  | some so =>
   cases so with
   | lst ys =>
    obtain ⟨p,vs,rfl,_,k1,k2⟩:=R.refL s ry hn
    obtain ⟨ok,h⟩:=Out.ifp (show Out K mg ρ H (if okIn x ys then .ok (.bl (neg.xor (ys.any λy=>bz y x))) st else .stuck) (gV K mg Q) E from by cases x<;>(simp only [yI,hn] at h;exact h))
    exact .inl ⟨ρ,x,ys,vs,p,ok,rfl,.inl (bo.of k1),k2,rx,h.now s _ rfl⟩
   | dic ks xs =>
    obtain ⟨p,vs,rfl,_,k1,k2,k3⟩:=R.refD s ry hn
    cases x with
    | str z =>
     simp only [yI,hn] at h
     cases rx
     refine .inr (.inl ⟨p,_,rfl,Cn k1,?_⟩)
     have e:((ks.zip vs).lookup z).isSome=((ks.zip xs).lookup z).isSome:=by
      cases hq:(ks.zip xs).lookup z with
      | some q=>obtain ⟨v,hv,_⟩:=mE k2 hq;rw [hv];rfl
      | none =>
       have:z∉ks:=by
        intro hz
        obtain ⟨i,hi⟩:=List.getElem?_of_mem hz
        have hl:i<xs.length:=by rw [k2.len,<-k3];exact (yt.mp hi).1
        have:=List.lookup_eq_none_iff.mp hq (z,xs[i]) (List.mem_iff_getElem?.mpr ⟨i,by simp [List.getElem?_zip_eq_some,hi,hl]⟩)
        simp at this
       rw [oo this];rfl
     rw [e]
     exact h.now s _ rfl
    | _=>simp only [yI,hn] at h;exact h.elim
   | ins c ks xs=>exfalso;cases x<;>(simp only [yI,hn] at h;exact h)
   | fdi ks xs=>exfalso;cases x<;>(simp only [yI,hn] at h;exact h)
   | dit ks xs=>exfalso;cases x<;>(simp only [yI,hn] at h;exact h)
 | str z =>
  cases x with
  | str q =>
   obtain ⟨⟨l⟩⟩:=q
   match l,rx,h with
   | [c],rx,h=>cases rx;cases ry;exact .inr (.inr ⟨c,z,rfl,rfl,Out.now (x:=PV.bl _) h s _ rfl⟩)
   | [],rx,h=>exact h.elim
   | _::_::_,rx,h=>exact h.elim
  | _=>exact h.elim
 | non=>exfalso;cases x<;>exact h
 | bl _=>exfalso;cases x<;>exact h
 | int _=>exfalso;cases x<;>exact h
 | ty _=>exfalso;cases x<;>exact h
 | fn _=>exfalso;cases x<;>exact h
 | kd _ _=>exfalso;cases x<;>exact h
 | exo _ _ _=>exfalso;cases x<;>exact h
def zbk (hu:X.A.units+200<cLine):bD X .In (yI false):=⟨_,Me hu,Cp⟩
def zbl (hu:X.A.units+200<cLine):bD X .NotIn (yI true):=⟨_,Mf hu,Cp⟩
abbrev uV:=opI c0 λi j=>Builtin.bitAnd i j
abbrev qJ:=opI c0 λi j=>Builtin.bitOr i j
abbrev Cq:=opI gT λi j=>i*2 ^ j.toNat
abbrev oF:Int->Int->Bool:=λ_ j=>decide (0<=j)
abbrev uW:=opI oF λi j=>i/2 ^ j.toNat
def zqH:cE X .BitAnd uV:=⟨_,ug Hg,wS λ_ _ _=>trivial⟩
def zeS:cE X .BitOr qJ:=⟨_,ug Hh,wS λ_ _ _=>trivial⟩
def zqI:cE X .LShift Cq:=⟨_,He,wS λi j h=>by simp [gT] at h;exact ⟨h.1.1,h.1.2,h.2⟩⟩
def zqJ:cE X .RShift uW:=⟨_,Hf,wS λi j h=>by simpa [oF] using h⟩
end
section
variable {X:Cx}{Er:XK}{pos:Pos}
abbrev XN:XK:=λ_ _ _=>False
def wW:jT X XN:=λ_ _ _ _ _ _ _ _ _ q=>q.elim
def cF (fe:Ai) (env:zc):List PV->Al
 | [],ys,st=>.ok (.ref st.length) (st++[.lst ys])
 | x::xs,ys,st=>(bE (fe (some x::env) st)).bind λy ae=>cF fe env xs (ys++[y]) ae
def de (fe:Ai) (env:zc) (n:Nat):Nat->Nat->Al
 | 0,_,_,_=>.stuck
 | m+1,i,ys,st=>yp st n λxs=>match xs[i]? with
  | none=>.ok (.ref st.length) (st++[.lst ys])
  | some x=>(bE (fe (some x::env) st)).bind λy ae=>de fe env n m (i+1) (ys++[y]) ae
def fJ (fe:Ai) (env:zc):Sq->Mo PV
 | .im xs,st=>if xs.length<=lim then cF fe env xs [] st else .stuck
 | .rf n,st=>de fe env n (lim+1) 0 [] st
def y8 (src:zc->Mo Sq) (fe:Ai):Ai:=λenv st=>(src env st).bind λq ae=>fJ fe env q ae
theorem Rs.snoc {K:Frag}{mg:Ab}{ρ:Ae}{H:Hp}{x:PV}{v:V}(r:R K mg ρ H x v):∀{xs:An}{vs:List V},Rs K mg ρ H xs vs->Rs K mg ρ H (xs++[x]) (vs++[v])
 | [],_,h=>by cases h;exact ⟨v,[],rfl,r,rfl⟩
 | y::xs,_,h=>by
  obtain ⟨w,q,rfl,h1,h2⟩:=h
  exact ⟨w,q++[v],rfl,h1,Rs.snoc r h2⟩
theorem Cr {elt iter:Expr} {x:Str} {px:Pos} {scope:Scope} {src:zc->Mo Sq} {fe:Ai} {M:Ad} (hc:X.calm=true) (S:cZ X.env.scope scope x) (eN:Hid scope M X.N) (cm:((".0" : Str)::x::M).Nodup)
  (hi:MI X Er (.Name x px) iter src) (he:∀cl C af ah fp,ME (iD X M scope cl x C af ah fp (λ_ _=>False)) XN elt fe)
  (hs:∀v,foldedSetIterable iter X.env v=pure v:=by intro _;rfl):ME X Er (.ListComp elt [⟨.Name x px,iter,[],0⟩] scope pos) (y8 src fe) :=
 PE.weak (IV (te:=tM X.K X.mg XN fe) hc S eN cm hi (λcl C af ah fp=>he cl C af ah fp) hs) λU H Q ⟨env,st,ρ,re,rs,h⟩=>⟨env,st,ρ,re,rs,h.then λaq H0 q dj e0 s0 h0 J wk=>by
  cases q with
  | im xs =>
   obtain ⟨hl,h0⟩:=Out.ifp h0
   obtain ⟨w1,w2,w3⟩:=wk
   refine ⟨λi m ys H=>m=xs.length-i/\i<=xs.length/\ys.length=i/\∃ps st ρ,Rs X.K X.mg ρ H ps ys/\bf X.K X.mg ρ H st/\Ext aq H0 ρ H/\Out X.K X.mg ρ H (cF fe env (xs.drop i) ps st) (gV X.K X.mg Q) Er,⟨xs.length,by simp,jc _,rfl,[],dj,aq,rfl,s0,Ext.refl,h0⟩,?_⟩
   rintro i m ys H ⟨rfl,hi,hy,ps,st,ρ,cy,rs,ex,h⟩
   by_cases bu:i<xs.length
   ·refine .inr ⟨w1 i ρ H ex bu,yZ (by omega),λv H' y=>?_⟩
    obtain ⟨x,hx,bN,s2,rx⟩:=w3 i ρ H st v H' ex rs bu y
    have hd:xs.drop i=x::xs.drop (i+1):=by
     rw [jP bu]
     have:=(yt.mp hx).2
     rw [this]
    rw [hd] at h
    simp only [cF] at h
    refine ⟨some x::env,st,ρ,(re.ext (e0.trans (ex.trans bN))).cons rx,s2,ju (Out.ext h bN) λal H3 y a_ e3 s3 h3 v ry=>⟨xs.length-(i+1),by omega,rfl,bu,by simp [hy],ps++[y],a_,al,Rs.snoc ry (Rs.ext (bN.trans e3) ps cy),s3,(ex.trans bN).trans e3,h3⟩⟩
   ·have e:i=xs.length:=by omega
    subst e
    rw [List.drop_length] at h
    exact .inl ⟨w2 _ ρ H ex (yd _),yZ (by omega),λl hl=>Out.newList h rs cy hl⟩
  | rf n =>
   obtain ⟨a,ha,rfl⟩:=wk
   refine ⟨λi m ys H=>m+i=lim+1/\ys.length=i/\∃ps st ρ,Rs X.K X.mg ρ H ps ys/\bf X.K X.mg ρ H st/\Ext aq H0 ρ H/\ρ[n]?=some a/\Out X.K X.mg ρ H (de fe env n m i ps st) (gV X.K X.mg Q) Er,⟨lim+1,rfl,rfl,[],dj,aq,rfl,s0,Ext.refl,ha,h0⟩,?_⟩
   rintro i m ys H ⟨hm,hy,ps,st,ρ,cy,rs,ex,ha,h⟩
   cases m with
   | zero=>exact h.elim
   | succ m =>
    obtain ⟨xs,hn,h⟩:=jy h
    obtain ⟨vs,hH,hR⟩:=rs.addr hn ha
    cases hx:xs[i]? with
    | none =>
     simp only [hx] at h
     have:vs.length<=i:=by rw [<-hR.len];exact lY.mp hx
     exact .inl ⟨⟨vs,bo.of hH,this⟩,yZ (by omega),λl hl=>Out.newList h rs cy hl⟩
    | some x =>
     simp only [hx] at h
     obtain ⟨v,hv,rv⟩:=hR.get hx
     refine .inr ⟨⟨vs,v,bo.of hH,hv⟩,yZ (by omega),λv' H' y=>?_⟩
     obtain ⟨e1,y⟩:=y
     subst e1
     have e2:=y vs (bo.of hH)
     rw [hv] at e2
     cases e2
     exact ⟨some x::env,st,ρ,(re.ext (e0.trans ex)).cons rv,rs,ju h λal H3 y a_ e3 s3 h3 v ry=>⟨m,jS m,by omega,by simp [hy],ps++[y],a_,al,Rs.snoc ry (Rs.ext e3 ps cy),s3,ex.trans e3,e3.get ha,h3⟩⟩⟩
def kX {elt iter:Expr} {x:Str} {px:Pos} {scope:Scope} {src:zc->Mo Sq} {fe:Ai} {N:Ad} (hc:X.calm=true) (S:cZ X.env.scope scope x) (eN:X.N=N) (cm:((".0" : Str)::x::N).Nodup)
  (hi:MI X Er (.Name x px) iter src) (he:∀cl C af ah fp,ME (A2 X scope cl x C af ah fp (λ_ _=>False)) XN elt fe)
  (hs:∀v,foldedSetIterable iter X.env v=pure v:=by intro _;rfl):ME X Er (.ListComp elt [⟨.Name x px,iter,[],0⟩] scope pos) (y8 src fe) :=
 Cr hc S Hid.refl (eN▸cm) hi he hs
end
section
variable {env:Env}{es:List Expr}{pos:Pos}
abbrev Cs (e:Expr) (es:List Expr) (env:Env):Prop:=starEach (e::es) env=(false,eval e env)::starEach es env
def Mg {c j}:Cs (.Constant c j pos) es env:=(rfl)
end
end Mi
namespace L2
open PySem PySem.Spec PyProof.Rows PySem.W
abbrev ZB (h:Heap) (z TI TO T:Addr) (f:Bool):Prop:=h.get? z=some { cls:=.type "zip", dict:=none,data:=.fields #[rawInt T,.bool f,.bool false,.ref TI,.ref TO],slots:=#[] }
section
variable {prog:Program}{w:World}{A:Around}{E:Aa}{s:Shared}{z TI TO T i1 i2 t1 t2:Addr}{k:Nat}{xs ys:Array Value}{x y a b:Value}{S1 S2:Nat->Heap->Prop}{f:Bool}{o:Obj}
end
structure ZS (z TI TO i1 i2 a b:Addr) (xs ys:Array Value) (k:Nat) (h:Heap):Prop where
 zi:(IsZip h z TI TO .none/\∃u v,IsPair h TO u v)\/∃T f o,ZB h z TI TO T f/\h.get? T=some o
 ti:IsPair h TI (.ref i1) (.ref i2)
 s1:n_ i1 a xs k h
 s2:n_ i2 b ys k h
section
variable {prog:Program}{w:World}{A:Around}{E:Aa}{s:Shared}{z TI TO i1 i2 a b:Addr}{k:Nat}{xs ys:Array Value}{x y:Value}
def ZS.type (st:ZS z TI TO i1 i2 a b xs ys k s.heap):s.TypeIs (.ref z) "zip" := by
 rcases st.zi with ⟨hz,_⟩|⟨T,f,o,hz,_⟩<;>exact ⟨_,hz,rfl⟩
end
structure Ap (d z TI TO i1 i2 a b:Addr):Prop where
 z:d≠z
 TI:d≠TI
 TO:d≠TO
 i1:d≠i1
 i2:d≠i2
 a:d≠a
 b:d≠b
section
variable {prog:Program}{w:World}{A:Around}{R:Result->Shared->Prop}{z TI TO i1 i2 a b d:Addr}{xs ys:Array Value}{keys:List Key}{vals:List V}
def ZS.keep {k:Nat}{h h':Heap}(st:ZS z TI TO i1 i2 a b xs ys k h) (P:Ap d z TI TO i1 i2 a b) (hs:Heap.SameBut d h h') (hd:∃o,h'.get? d=some o):ZS z TI TO i1 i2 a b xs ys k h':=by
 have up:∀c o,c≠d->h.get? c=some o->h'.get? c=some o:=λc o n e=>hs.extBut _ _ n e
 obtain ⟨⟨⟨o1,g1,r1⟩,⟨p1,e1,t1⟩⟩,⟨⟨o2,g2,r2⟩,⟨p2,e2,t2⟩⟩⟩:=And.intro st.s1 st.s2
 refine ⟨?_,up _ _ P.TI.symm st.ti,⟨⟨o1,up _ _ P.i1.symm g1,r1⟩,⟨p1,up _ _ P.a.symm e1,t1⟩⟩,⟨⟨o2,up _ _ P.i2.symm g2,r2⟩,⟨p2,up _ _ P.b.symm e2,t2⟩⟩⟩
 rcases st.zi with ⟨hz,u,v,eE⟩|⟨T,f,o,hz,hT⟩
 ·exact .inl ⟨up _ _ P.z.symm hz,u,v,up _ _ P.TO.symm eE⟩
 ·by_cases e:T=d
  ·obtain ⟨o',ho'⟩:=hd
   exact .inr ⟨T,f,o',up _ _ P.z.symm hz,by rw [e];exact ho'⟩
  ·exact .inr ⟨T,f,o,up _ _ P.z.symm hz,up _ _ e hT⟩
end
section
variable {prog:Program}{w:World}{A:Around}{E:Aa}{s:Shared}{z TI TO i1 i2 a b:Addr}{xs ys:Array Value}{keys:List Key}{vals:List V}
def ZS.push {k:Nat}{h h':Heap}(st:ZS z TI TO i1 i2 a b xs ys k h) (up:∀c o,h.get? c=some o->h'.get? c=some o):ZS z TI TO i1 i2 a b xs ys k h':=by
 obtain ⟨⟨⟨o1,g1,r1⟩,⟨p1,e1,t1⟩⟩,⟨⟨o2,g2,r2⟩,⟨p2,e2,t2⟩⟩⟩:=And.intro st.s1 st.s2
 refine ⟨?_,up _ _ st.ti,⟨⟨o1,up _ _ g1,r1⟩,⟨p1,up _ _ e1,t1⟩⟩,⟨⟨o2,up _ _ g2,r2⟩,⟨p2,up _ _ e2,t2⟩⟩⟩
 rcases st.zi with ⟨hz,u,v,eE⟩|⟨T,f,o,hz,hT⟩
 ·exact .inl ⟨up _ _ hz,u,v,up _ _ eE⟩
 ·exact .inr ⟨T,f,o,up _ _ hz,up _ _ hT⟩
end
end L2
namespace Mi
open PySem L2 PySem.W PySem.Spec
section
variable {X:Cx}{K:Frag}{mg:Ab}{Er:XK}{e o:Expr}{es:List Expr}{pos p apos:Pos}{k:Nat}{x:Str}{m:Al}{fs:Ah}{fo fa:Ai}
def uX (j:Nat):Fl->Mo Fl
 | .nx e,st=>.ok (.nx (e.set j none)) st
 | .rt x,st=>.ok (.rt x) st
 | _,_=>.stuck
end
section
variable {X:Cx}{K:Frag}{mg:Ab}{Er:XK}{e o:Expr}{es:List Expr}{pos p apos:Pos}{fs:Ah}{fo fa:Ai}
def strsOf:List PV->Option (Ad)
 | []=>some []
 | .str z::r=>(strsOf r).map (z::·)
 | _::_=>none
theorem Ct {ρ:Ae}{H:Hp}:∀{xs:An}{zs:Ad}{vs:List V},strsOf xs=some zs->Rs K mg ρ H xs vs->vs=(zs.map Sum.inr:List Key).map kV
 | [],zs,vs,e,h=>by cases e;cases h;rfl
 | .str z::r,zs,vs,e,h=>by
  simp only [strsOf,Option.map_eq_some_iff] at e
  obtain ⟨zr,e1,rfl⟩:=e
  obtain ⟨v,r',rfl,h1,h2⟩:=h
  cases h1
  rw [Ct e1 h2]
  rfl
 | .non::_,_,_,e,_=>by cases e
 | .bl _::_,_,_,e,_=>by cases e
 | .int _::_,_,_,e,_=>by cases e
 | .ty _::_,_,_,e,_=>by cases e
 | .tup _::_,_,_,e,_=>by cases e
 | .frl _::_,_,_,e,_=>by cases e
 | .ref _::_,_,_,e,_=>by cases e
 | .fn _::_,_,_,e,_=>by cases e
 | .kd _ _::_,_,_,e,_=>by cases e
 | .exo _ _ _::_,_,_,e,_=>by cases e
end
end Mi
namespace L2
open PySem PySem.Spec PyProof.Rows PySem.W
def Cu (K:Frag) (a:Addr):It :=
 ⟨λi H=>∃xs x,bo K H a xs/\xs[i]?=some x,
  λi H v H'=>∃T x,H T=none/\v=.ref T/\H'=upd H T (.tup [.int i,x])/\∀xs,bo K H a xs->xs[i]?=some x,
  λi H=>∃xs,bo K H a xs/\xs.length<=i⟩
def Mh (e it a:Addr) (k:Nat) (h:Heap):Prop:=(∃old,IsEnum h e it k old)/\h.IsListIter it a k
def Mj {X:Cx}{pins:Ac}{U:St}{H:Hp}{s:Shared}{a c:Addr}{xs:List V}(I:Inv X pins U H s) (hf:cO X pins H c) (hq:bo X.K H a xs):a≠c:=by
 rintro rfl
 rcases hq with q|⟨o,its,n,hl,_⟩
 ·rcases q with q|⟨ob,q⟩<;>(rw [hf.1] at q;cases q)
 ·have e:=I.ok.mod.kin _ _ hl
  rcases hf.2.2.2.1 with z|z
  ·exact I.ok.noex _ _ e z
  ·exact absurd (jd (yf (I.ok.bs _ _ e).1) z) (Nat.lt_irrefl _)
def Ml {P:Program}{w:World}{K:Frag}{elts:List Expr}{kt:Nat}{pos:Pos}{e it a:Addr}(ne:e≠it):Turn P w K (.Tuple elts kt pos) (Cu K a) [e,it] e (Mh e it a) where
 mem:=by simp
 obj:=λi h st c hc=>by
  obtain ⟨⟨old,he⟩,⟨o1,e1,_,d1⟩⟩:=st
  simp only [yE,List.not_mem_nil,wP] at hc
  rcases hc with q|q<;>rw [q]
  ·exact ⟨_,he,λv z=>by cases z⟩
  ·exact ⟨_,e1,λv z=>by rw [d1] at z;cases z⟩
 keep:=λi h h' st k=>by
  obtain ⟨⟨old,he⟩,⟨o1,e1,r1⟩⟩:=st
  exact ⟨⟨old,k e (by simp) _ he⟩,⟨o1,k it (by simp) _ e1,r1⟩⟩
 item:=by
  intro X hP hw hK hc i pins s U H E I hf st hg
  subst hP hw hK
  obtain ⟨xs,x,hq,hx⟩:=hg
  obtain ⟨⟨old,he⟩,hit⟩:=st
  obtain ⟨its,rv,p,hz⟩:=I.list hq
  obtain ⟨u,hu,ru⟩:=rv.get hx
  have n1:∀c∈[e,it],a≠c:=λc h=>Mj I (hf c h) hq
  refine wpAny_pyNext_enum_item he hit p.isList (x:=u) (by simpa using hu) ne λh1 eo oG pT hsz kk=>⟨_,rfl,?_⟩
  refine wpAny_letOwnedTupleGo_enum (s:={ s with heap:=h1,toks:=s.toks+1 }) eo λh2 e2 sb=>?_
  have fr:H s.heap.objs.size=none:=I.hok.fresh (yd _)
  have up:∀c o,c≠e->h1.get? c=some o->h2.get? c=some o:=λc o n q=>sb.extBut _ _ n q
  have nz:s.heap.objs.size≠e:=Nat.ne_of_gt (yf he)
  have k2:∀c o,c∉[e,it]->s.heap.get? c=some o->h2.get? c=some o:=λc o nc q=>up c o (λz=>nc (by simp [z])) (kk c o (λz=>nc (by simp [z])) (λz=>nc (by simp [z])) q)
  refine ⟨.ref s.heap.objs.size,upd H s.heap.objs.size (.tup [.int i,x]),?_,rfl,⟨s.heap.objs.size,x,fr,rfl,rfl,λys hy=>by rw [I.list_inj hy hq];exact hx⟩,?_,λc cI=>?_⟩
  ·exact Inv.turnN (s:=s) (h':=h2) (t':=s.toks+1) I hf k2 (yd _) ⟨show 2<=sizeLine by decide,[.int i s.toks,u],.cons ⟨_,rfl⟩ (.cons ru .nil),_,up _ _ nz pT,rfl,_,rfl⟩
  ·refine ⟨⟨u,by rw [show ((i+1:Nat):Int)=(i:Int)+1 from rfl];exact e2⟩,let ⟨o,q,r⟩:=oG;⟨o,up _ _ ne.symm q,r⟩⟩
  ·have lt:∃o,s.heap.get? c=some o:=by
    simp only [yE,List.not_mem_nil,wP] at cI
    rcases cI with q|q<;>rw [q]
    ·exact ⟨_,he⟩
    ·exact let ⟨o,q,_⟩:=hit;⟨o,q⟩
   obtain ⟨o,q⟩:=lt
   have z:c≠s.heap.objs.size:=yz (yf q)
   rw [zW z]
   exact (hf c cI).1
 done:=by
  intro X hP hw hK hc i pins s U H E I hf st hg
  subst hP hw hK
  obtain ⟨xs,hq,hx⟩:=hg
  obtain ⟨⟨old,he⟩,hit⟩:=st
  obtain ⟨its,rv,p,hz⟩:=I.list hq
  have hl:=rv.length
  refine wpAny_pyNext_enum_end (I.ok.hd hc) he hit p.isList (by simp;omega) λh' eb=>⟨rfl,?_⟩
  exact Inv.turnL (ch:=[e,it]) (t':=s.toks) I hf λc o nc q=>eb c o (λz=>nc (by simp [z])) q
 self:=λ_ _ _ _ _ st h=>by
  obtain ⟨⟨old,he⟩,_⟩:=st
  exact wpAny_pyIter_enum he h
theorem Cw:bootBuiltins "enumerate" = some (.type "enumerate"):=by decide +kernel
def Mm (K:Frag) (ta:TA):TI:=λU H R=>ta U H λvs H1=>∃a,vs=[.ref a]/\(∃xs,bo K H1 a xs)/\R (Cu K a) H1
theorem Mn {X:Cx} {elts:List Expr} {kt:Nat} {tp:Pos} {x:Expr} {ta:TA} {p pos:Pos} (hg:Gl X "enumerate") (hm:X.mg "enumerate" = none) (ha:PA X [x] ta) (hs:starEach [x] X.env=[(false,eval x X.env)]:=by rfl) :
  PI X (.Tuple elts kt tp) (.Call (.Name "enumerate" p) [x] [] pos) (Mm X.K ta):=by
 intro pins s U H R I h
 refine Call_ (iu I hg hm Cw (PyProof.Rows.callWith_type1 (aU (ha pos pins s U H _ I h) λus s1 ⟨vs,H1,I1,r1,q1⟩=>?_) hs rfl))
 obtain ⟨a,e,⟨xs,hq⟩,q⟩:=q1
 subst e
 obtain ⟨u,rfl,ru⟩:=r1.one
 obtain rfl:u=Value.ref a:=ru
 obtain ⟨its,_,p1,_⟩:=I1.list hq
 refine call_enumerate_list p1.isList λh' he hit hsz kk=>wpAny_pyIter_enum he ?_
 have ne:∀(n:Nat),n+1≠n:=λn z=>by omega
 refine ⟨_,[s1.heap.objs.size+1,s1.heap.objs.size],_,_,H1,rfl,I1.kept (t':=s1.toks) kk,Ml (ne _),⟨⟨_,he⟩,hit⟩,λc hc=>?_,q⟩
 have le:s1.heap.objs.size<=c:=by
  simp only [yE,List.not_mem_nil,wP] at hc
  rcases hc with q|q<;>rw [q]<;>first|exact yd _|exact Nat.le_add_right _ _
 exact I1.fpOk le (I1.hok.fresh le)
end L2
namespace Mi
open PySem L2 PySem.W PySem.Spec
section
variable {X:Cx}{Er:XK}{pos:Pos}{ez:List Stmt}{gb:Aj}{fs:Ah}
def eL (g:PV->zc->Option zc) (body:Aj) (n:Nat):Nat->Nat->Aj
 | 0,_,_,_=>.stuck
 | m+1,i,env,st=>yp st n λxs=>match xs[i]? with
  | none=>.ok (.nx env) st
  | some x=>match g (.tup [.int i,x]) env with
   | none=>.stuck
   | some bX=>(body bX st).bind λfl av=>match fl with
    | .nx e=>eL g body n m (i+1) e av
    | .ct e=>eL g body n m (i+1) e av
    | .bk e=>.ok (.nx e) av
    | .rt v=>.ok (.rt v) av
def qK:List PV->Mo Nat
 | [.ref n],st=>yp st n λ_=>.ok n st
 | _,_=>.stuck
def Mp {α:Type}{K:Frag}{mg:Ab}{ρ:Ae}{H:Hp}{vs:An}{st:ao}{f:Nat->Mo α}{good:List Addr->Hp->α->ao->Prop}(h:Out K mg ρ H ((qK vs st).bind f) good Er):∃n xs,vs=[.ref n]/\st[n]?=some (.lst xs)/\Out K mg ρ H (f n st) good Er:=by
 unfold qK at h
 split at h
 ·rename_i n
  unfold yp at h
  cases hn:st[n]? with
  | none=>simp only [hn] at h;exact h.elim
  | some so =>
   cases so with
   | lst xs=>simp only [hn] at h;exact ⟨n,xs,rfl,hn,h⟩
   | _=>simp only [hn] at h;exact h.elim
 ·exact h.elim
def mK (fs:Ah) (g:PV->zc->Option zc) (body:Aj):Aj:=λenv st=>(fs env st).bind λvs ae=>(qK vs ae).bind λn ae=>eL g body n (lim+1) 0 env ae
def Mq {elts:List Expr} {kt:Nat} {tp p ip:Pos} {x:Expr} {gt:PV->zc->Option zc} (hp:PassesOwn (model X.prog X.w) X.A X.env X.xe) (hc:X.calm=true) (hm:X.mg "enumerate" = none) (ha:MA X Er [x] fs) (hg:MG X Er (.Tuple elts kt tp) gt) (hb:dW X Er ez gb)
  (uY:Gl X "enumerate" := by rfl) (bw:starEach [x] X.env=[(false,eval x X.env)]:=by rfl) (hs:∀v,foldedSetIterable (.Call (.Name "enumerate" p) [x] [] ip) X.env v=pure v:=by intro _;rfl) :
  MS X Er (.For (.Tuple elts kt tp) (.Call (.Name "enumerate" p) [x] [] ip) ez [] pos) (mK fs gt gb) :=
 PS.weak (xP hp hc (Mn uY hm ha bw) hg hb hs) λD U H ⟨env,st,ρ,re,rs,h⟩=>⟨env,st,ρ,re,rs,h.then λaq H0 vs dj e0 s0 h0 us ru=>by
  obtain ⟨n,oi,rfl,Mr,h0⟩:=Mp h0
  obtain ⟨v,rfl,rv⟩:=ru.one
  obtain ⟨a,rfl,ha⟩:=rv
  obtain ⟨qL,Ms,Cy⟩:=s0.addr Mr ha
  refine ⟨a,rfl,⟨_,bo.of Ms⟩,?_⟩
  refine ⟨λi m U H=>∃env st ρ,bj X.K X.mg ρ H env U/\bf X.K X.mg ρ H st/\ρ[n]?=some a/\Out X.K X.mg ρ H (eL gt gb n m i env st) (gS X.K X.mg D) Er,⟨lim+1,env,dj,aq,re.ext e0,s0,ha,h0⟩,?_⟩
  rintro i m U H ⟨env,st,ρ,re,rs,ha,h⟩
  cases m with
  | zero=>exact h.elim
  | succ m =>
   obtain ⟨xs,hn,h⟩:=jy h
   obtain ⟨vs,hH,hR⟩:=rs.addr hn ha
   cases hx:xs[i]? with
   | none =>
    simp only [hx] at h
    have:vs.length<=i:=by rw [<-hR.len];exact lY.mp hx
    exact .inl ⟨⟨vs,bo.of hH,this⟩,Out.now (x:=Fl.nx env) h rs U re⟩
   | some x =>
    simp only [hx] at h
    obtain ⟨v,hv,rv⟩:=hR.get hx
    refine .inr ⟨⟨vs,v,bo.of hH,hv⟩,_,λai H' p'=>⟨m,jS m,p'⟩,λv' H' y=>?_⟩
    obtain ⟨T,x',hT,rfl,rfl,y⟩:=y
    have e2:=y vs (bo.of hH)
    rw [hv] at e2
    cases e2
    have ex:Ext ρ H ρ (upd H T (.tup [.int i,v])):=Ext.new hT
    cases hgx:gt (.tup [.int i,x]) env with
    | none=>simp only [hgx] at h;exact h.elim
    | some bX =>
     simp only [hgx] at h
     refine ⟨.tup [.int i,x],env,bX,ρ,⟨T,[.int i,v],rfl,.inl (.inl yx),_,_,rfl,rfl,_,_,rfl,R.ext ex x rv,rfl⟩,re.ext ex,hgx,λau r1=>⟨bX,st,ρ,r1,rs.new hT,Out.then (Out.ext h ex) λal H3 fl a_ e3 s3 h3=>?_⟩⟩
     cases fl with
     | nx e=>exact λaE r4=>⟨e,a_,al,r4,s3,e3.get ha,h3⟩
     | ct e=>exact λaE r4=>⟨e,a_,al,r4,s3,e3.get ha,h3⟩
     | bk e=>exact Out.fl (D:=D) (fl:=.nx e) (E:=Er) h3 s3
     | rt v=>exact Out.fl (D:=D) (fl:=.rt v) (E:=Er) h3 s3⟩
end
section
variable {X:Cx}{Er:XK}{pos:Pos}{fs:Ah}
end
end Mi
namespace L2
open PySem PySem.Spec PyProof.Rows PySem.W
def dZ (z:Str) (n:Int):Str:=if n<1 then Str.empty else if (n==1||z.length==0)=true then z else ⟨(List.replicate n.toNat z.cps).foldl (·++·) #[]⟩
theorem Cz (c:Array Nat):∀(k:Nat) (a:Array Nat),((List.replicate k c).foldl (·++·) a).size=a.size+k*c.size
 | 0,a=>by simp
 | k+1,a=>by
  rw [List.replicate_succ,List.foldl_cons,Cz c k,Array.size_append,Nat.succ_mul]
  omega
theorem Mt (z:Str) (n:Int):(dZ z n).length=n.toNat*z.length:=by
 unfold dZ
 split
 ·rename_i h
  have:n.toNat=0:=by omega
  rw [this,Nat.zero_mul];rfl
 ·rename_i h
  split
  ·rename_i h2
   simp only [Bool.or_eq_true,beq_iff_eq] at h2
   rcases h2 with h2|h2
   ·subst h2;simp
   ·rw [h2];simp
  ·show ((List.replicate n.toNat z.cps).foldl (·++·) #[]).size=_
   rw [Cz]
   show 0+n.toNat*z.cps.size=_
   rw [Nat.zero_add];rfl
def CA:R2:=λx y H Q=>∃z n,x=.str z/\y=.int n/\(0<=n/\n<=1000/\z.length<=1000)/\Q (.str (dZ z n)) H
theorem Mu {X:Cx}:ba X (binaryOp .Mult) CA:=by
 intro pins s U H x y v u Q I rx ry h
 obtain ⟨z,n,rfl,rfl,⟨h0,h1,h2⟩,q⟩:=h
 obtain ⟨t,rfl⟩:=rx
 obtain ⟨t',rfl⟩:=ry
 have hb:n.toNat*z.length<=1000000:=by
  have:n.toNat<=1000:=by omega
  calc n.toNat*z.length<=1000*1000:=Nat.mul_le_mul this h2
   _=1000000:=rfl
 have hsz:=sizeLine_eq
 refine PySem.P.mul_str (by rw [jR (by omega),jR (by omega)];rfl) (λha _=>?_) (λ_ _=>?_) ?_
 ·have:(2 ^ 63-1:Int)/n>=1000:=by
   rw [ge_iff_le,Int.le_ediv_iff_mul_le (by omega)]
   omega
  omega
 ·show decide _=false
  rw [decide_eq_false_iff_not]
  have:z.length*n.toNat<=1000000:=by rw [Nat.mul_comm];exact hb
  rw [sizeLine_eq];omega
 ·by_cases c1:n<1
  ·rw [zu c1]
   have e:dZ z n=Str.empty:=by unfold dZ;rw [zu c1]
   rw [e] at q
   exact ⟨by decide,.str Str.empty,H,I.tok _,⟨_,rfl⟩,q⟩
  ·rw [zF c1]
   by_cases c2:(n==1||z.length==0)=true
   ·rw [zu c2]
    have e:dZ z n=z:=by unfold dZ;rw [zF c1,zu c2]
    rw [e] at q
    exact ⟨.str z,H,I,⟨_,rfl⟩,q⟩
   ·rw [zF c2]
    have e:dZ z n=⟨(List.replicate n.toNat z.cps).foldl (·++·) #[]⟩:=by unfold dZ;rw [zF c1,zF c2]
    have hl:=Mt z n
    rw [e] at q hl
    exact ⟨by rw [hl,sizeLine_eq];omega,.str _,H,I.tok _,⟨_,rfl⟩,q⟩
end L2
namespace Mi
open PySem L2 PySem.W PySem.Spec
section
variable {X:Cx}{K:Frag}{mg:Ab}{Er:XK}{e o:Expr}{es:List Expr}{pos apos:Pos}{fs:Ah}{fo fa:Ai}
def CB:Am
 | .int i,.int j,st=>BH (.int i) (.int j) st
 | .str z,.int n,st=>if 0<=n/\n<=1000/\z.length<=1000 then .ok (.str (dZ z n)) st else .stuck
 | _,_,_=>.stuck
def zqS:cE X .Mult CB:=by
 obtain ⟨r,h1,h2⟩:=Kt (X:=X)
 refine ⟨λx y H Q=>r x y H Q\/CA x y H Q,h1.or Mu,fun ρ H st x y v w Q E s rx ry h=>?_⟩
 cases x with
 | int i =>
  cases y with
  | int j=>exact .inl (h2 ρ H st (.int i) (.int j) v w Q E s rx ry h)
  | _=>exact h.elim
 | str z =>
  cases y with
  | int n =>
   obtain ⟨c,h⟩:=Out.ifp h
   cases rx;cases ry
   exact .inr ⟨z,n,rfl,rfl,c,Out.now (x:=PV.str (dZ z n)) h s _ rfl⟩
  | _=>exact h.elim
 | _=>exact h.elim
def wG:Al
 | [.int i],st=>if i.natAbs.log2<1920 then .ok (.str (toString i)) st else .stuck
 | _,_=>.stuck
def Mv:cV X (.type "str") wG:=⟨_,Hu,fun ρ H st xs vs Q E s r h=>by
 unfold wG at h
 split at h
 ·rename_i i
  obtain ⟨c,h⟩:=Out.ifp h
  obtain ⟨v,rfl,rfl⟩:=r.one
  exact ⟨i,rfl,c,Out.now (x:=PV.str (toString i)) h s _ rfl⟩
 ·exact h.elim⟩
theorem Rs.reverse {ρ:Ae}{H:Hp}:∀{xs:An}{vs:List V},Rs K mg ρ H xs vs->Rs K mg ρ H xs.reverse vs.reverse
 | [],_,h=>by cases h;rfl
 | x::xs,_,h=>by
  obtain ⟨v,r,rfl,h1,h2⟩:=h
  rw [List.reverse_cons,List.reverse_cons]
  exact (Rs.reverse h2).append ⟨v,[],rfl,h1,rfl⟩
def oH:List Expr->Option (Ad)
 | []=>some []
 | .Constant (.str z) _ _::r=>(oH r).map (z::·)
 | _::_=>none
def CC (zs:Ad):Ah:=λ_ st=>.ok (zs.map PV.str) st
def zqT:∀{es:List Expr}{zs:Ad},oH es=some zs->MA X Er es (CC zs):=by
 intro es
 induction es with
 | nil=>intro zs h;cases h;exact zl
 | cons e r ih =>
  intro zs h
  cases e with
  | Constant c j p =>
   cases c with
   | str z =>
    simp only [oH,Option.map_eq_some_iff] at h
    obtain ⟨zr,h1,rfl⟩:=h
    exact BE zM (ih h1) Mg
   | _=>cases h
  | _=>cases h
end
section
variable {env:zc}{st:ao}{fa fb fo fi fv fe:Ai}{fs:Ah}{ft:Ak}{g:Aj}{src:zc->Mo Sq}
@[simp] def WD (xs:An) (i:Int):zq (.tup xs) (.int i) st=bP (c7 xs i) st:=(rfl)
@[simp] def mL:y8 src fe env st=(src env st).bind λq ae=>fJ fe env q ae:=(rfl)
@[simp] def qM (xs:An):fJ fe env (.im xs) st=if xs.length<=lim then cF fe env xs [] st else .stuck:=(rfl)
@[simp] def CD:dR fs env st=(fs env st).bind kT:=(rfl)
@[simp] def Mw (j:Int):kT [.int j] st=if cR j=true then .ok (.im (nums 0 j.toNat)) st else .stuck:=(rfl)
@[simp] def Mx (gt:PV->zc->Option zc):mK fs gt g env st=(fs env st).bind λvs ae=>(qK vs ae).bind λn ae=>eL gt g n (lim+1) 0 env ae:=(rfl)
@[simp] def My (i:Int):wG [.int i] st=if i.natAbs.log2<1920 then .ok (.str (toString i)) st else .stuck:=(rfl)
@[simp] def wt (n:Nat):ja [.ref n] st=yp st n λxs=>.ok (.tup xs) st:=(rfl)
@[simp] def Mz (n:Nat) (y:PV):jh (.ref n) y st=yp st n λxs=>if xs.length<lim then .ok .non (st.set n (.lst (xs++[y]))) else .stuck:=(rfl)
end
def Pre (a b:ao):Prop:=∃d,b=a++d
def Pre.refl (st:ao):Pre st st:=⟨[],by simp⟩
def Pre.trans {a b c:ao}(h:Pre a b) (h':Pre b c):Pre a c:=by obtain ⟨d,rfl⟩:=h;obtain ⟨d',rfl⟩:=h';exact ⟨d++d',by simp⟩
def Pre.of (st d:ao):Pre st (st++d):=⟨d,rfl⟩
def Pre.get {a b:ao}(h:Pre a b) {n:Nat}{so:SO}(e:a[n]?=some so):b[n]?=some so:=by
 obtain ⟨d,rfl⟩:=h
 rw [ik (yt.mp e).1]
 exact e
def yC (st:ao) (so:SO):(st++[so])[st.length]?=some so:=by simp
theorem CF {fe:Ai}{env:zc}{f:PV->PV}{st:ao}:∀(xs:An),(∀x∈xs,fe (some x::env) st=.ok (f x) st)->∀(ys:An),cF fe env xs ys st=.ok (.ref st.length) (st++[.lst (ys++xs.map f)])
 | [],_,ys=>by simp [cF]
 | x::xs,h,ys=>by
  simp only [cF,h x (jk ..),jM,zL]
  rw [CF xs (λx' qA=>h x' (jr _ qA))]
  simp
theorem MC {fe:Ai}{env:zc}{f:PV->PV}{st:ao}{n:Nat}{xs:An}(hn:st[n]?=some (.lst xs)) (h:∀x∈xs,fe (some x::env) st=.ok (f x) st) :
  ∀(k i:Nat) (m:Nat) (ys:An),xs.length-i=k->i<=xs.length->k<m->de fe env n m i ys st=.ok (.ref st.length) (st++[.lst (ys++(xs.drop i).map f)]):=by
 intro k
 induction k with
 | zero =>
  intro i m ys hk hi hm
  obtain ⟨m',rfl⟩:∃m',m=m'+1:=⟨m-1,by omega⟩
  have uf:i=xs.length:=by omega
  subst uf
  simp [de,yp,hn]
 | succ k ih =>
  intro i m ys hk hi hm
  obtain ⟨m',rfl⟩:∃m',m=m'+1:=⟨m-1,by omega⟩
  have bu:i<xs.length:=by omega
  have e:xs[i]?=some xs[i]:=by simp [bu]
  simp only [de,yp,hn,e,h xs[i] (List.getElem_mem bu),jM,zL]
  rw [ih (i+1) m' _ (by omega) (by omega) (by omega),jP bu]
  rw [yQ,List.append_assoc,List.singleton_append]
def zqZ {K:Frag}{mg:Ab}{t:IsT}(hs:t.sub=λ_ _=>none) (hT:t.subT=λ_ _=>none) (hC:t.tyC=λ_ _=>none):IsF K mg t where
 s c B b h:=by rw [hs] at h;cases h
 tt c n b h:=by rw [hT] at h;cases h
 u T B b h:=by rw [hC] at h;cases h
 x c C h hm z:=by
  rcases z with ⟨B,b,z⟩|⟨n,b,z⟩
  ·rw [hs] at z;cases z
  ·rw [hT] at z;cases z
 i c C h hm z:=by
  rcases z with ⟨B,b,z⟩|⟨n,b,z⟩
  ·rw [hs] at z;cases z
  ·rw [hT] at z;cases z
section
variable {X:Cx}{Er:XK}{pos:Pos}
inductive oI (X:Cx) (Er:XK):List (Option Expr)->List Expr->List Str->List (Ai)->Prop
 | nil:oI X Er [] [] [] []
 | cons {z:Str} {j} {p:Pos} {v:Expr} {f:Ai} {ks:List (Option Expr)} {vs:List Expr} {zs:Ad} {fs:List (Ai)} (hv:ME X Er v f) (hr:oI X Er ks vs zs fs):oI X Er (some (.Constant (.str z) j p)::ks) (v::vs) (z::zs) (f::fs)
def oI.len {ks:List (Option Expr)}{vs:List Expr}{zs:Ad}{fs:List (Ai)}(h:oI X Er ks vs zs fs):ks.length=vs.length/\zs.length=fs.length/\ks.length=zs.length/\ks.all (·.isSome)=true:=by
 induction h with
 | nil=>exact ⟨rfl,rfl,rfl,rfl⟩
 | cons hv hr ih=>exact ⟨by simp [ih.1],by simp [ih.2.1],by simp [ih.2.2.1],by simpa using ih.2.2.2⟩
end
section
variable {X:Cx}
end
section
variable {X:Cx}
def MD:ba X (compareOp .IsNot) (λx y H Q=>∃a b,x=.bl a/\y=.bl b/\Q (.bl (!(a==b))) H):=by
 intro pins s U H x y v u Q I rx ry h
 obtain ⟨a,b,rfl,rfl,q⟩:=h
 cases rx;cases ry
 exact PyProof.Rows.isnot_bool ⟨.bl (!(a==b)),H,I,rfl,q⟩
def wj:Am
 | .bl a,.bl b,st=>.ok (.bl (!(a==b))) st
 | x,y,st=>BK x y st
def wX:bD X .IsNot wj:=by
 obtain ⟨r,h1,h2⟩:=KG (X:=X)
 refine ⟨λx y H Q=>r x y H Q\/_,h1.or MD,fun ρ H st x y v w Q E s rx ry h=>?_⟩
 unfold wj at h
 split at h
 ·rename_i a b
  cases rx;cases ry
  exact .inr ⟨_,_,rfl,rfl,Out.now (x:=PV.bl (!(a==b))) h s _ rfl⟩
 ·exact .inl (h2 ρ H st _ _ v w Q E s rx ry h)
end
def fj (f:PV->PV->Option Bool):List PV->List PV->Option Bool
 | [],[]=>some true
 | x::xs,y::ys=>match f x y,fj f xs ys with
  | some a,some b=>some (a&&b)
  | _,_=>none
 | _,_=>some false
def dw (f:PV->PV->Option Bool) (cz:Ad) (cU:An):List Str->List PV->Option Bool
 | k::ks,x::xs=>match (cz.zip cU).lookup k with
  | none=>some false
  | some y=>match f x y,dw f cz cU ks xs with
   | some a,some b=>some (a&&b)
   | _,_=>none
 | _,_=>some true
theorem CG {f:PV->PV->Option Bool}:∀{xs ys:An}{b:Bool},fj f xs ys=some b->∃e:Nat->Bool,(∀j x y,xs[j]?=some x->ys[j]?=some y->f x y=some (e j))/\((List.range (min xs.length ys.length)).all e&&xs.length==ys.length)=b
 | [],[],b,h=>by cases h;exact ⟨λ_=>true,λj x y h=>by simp at h,by simp⟩
 | [],y::ys,b,h=>by cases h;exact ⟨λ_=>true,λj x y h=>by simp at h,by simp⟩
 | x::xs,[],b,h=>by cases h;exact ⟨λ_=>true,λj x y _ h=>by simp at h,by simp⟩
 | x::xs,y::ys,b,h=>by
  simp only [fj] at h
  cases hf:f x y with
  | none=>rw [hf] at h;cases h
  | some a =>
   cases hr:fj f xs ys with
   | none=>rw [hf,hr] at h;cases h
   | some c =>
    rw [hf,hr] at h
    cases h
    obtain ⟨e,h1,h2⟩:=CG hr
    refine ⟨λj=>match j with|0=>a|j+1=>e j,λj u v hu hv=>?_,?_⟩
    ·cases j with
     | zero=>simp at hu hv;subst hu;subst hv;exact hf
     | succ j=>simp at hu hv;exact h1 j u v hu hv
    ·have e1:min (x::xs).length (y::ys).length=min xs.length ys.length+1:=by simp only [wz];omega
     have e2:((x::xs).length==(y::ys).length)=(xs.length==ys.length):=by
      rw [Bool.eq_iff_iff];simp
     rw [e1,e2,List.range_succ_eq_map,List.all_cons,List.all_map,<-h2,Bool.and_assoc]
     rfl
section
variable {X:Cx}{Er:XK}{K:Frag}{mg:Ab}{ρ:Ae}{pins:Ac}{U:L2.St}{H:Hp}{s:Shared}{st:ao}
def MF {ρ:Ae}(nd:ρ.Nodup) {n m:Nat}{a:Addr}(h:ρ[n]?=some a) (h':ρ[m]?=some a):n=m:=by
 obtain ⟨h1,h2⟩:=yt.mp h
 obtain ⟨h3,h4⟩:=yt.mp h'
 have pw:=List.pairwise_iff_getElem.mp nd
 rcases Nat.lt_trichotomy n m with c|c|c
 ·exact absurd (h2.trans h4.symm) (pw n m h1 h3 c)
 ·exact c
 ·exact absurd (h4.trans h2.symm) (pw m n h3 h1 c)
theorem CH {f:PV->PV->Option Bool}(hf:∀x y v b,f x y=some b->R K mg ρ H x v->R K mg ρ H y v->b=true):∀{xs ys:An}{vs:List V}{b:Bool},fj f xs ys=some b->Rs K mg ρ H xs vs->Rs K mg ρ H ys vs->b=true
 | [],[],vs,b,h,_,_=>by cases h;rfl
 | [],y::ys,vs,b,h,rx,ry=>by cases rx;obtain ⟨_,_,e,_⟩:=ry;cases e
 | x::xs,[],vs,b,h,rx,ry=>by cases ry;obtain ⟨_,_,e,_⟩:=rx;cases e
 | x::xs,y::ys,vs,b,h,rx,ry=>by
  obtain ⟨v,r,rfl,r1,r2⟩:=rx
  obtain ⟨v',r',e,r3,r4⟩:=ry
  cases e
  simp only [fj] at h
  cases h1:f x y with
  | none=>rw [h1] at h;cases h
  | some a =>
   cases h2:fj f xs ys with
   | none=>rw [h1,h2] at h;cases h
   | some c =>
    rw [h1,h2] at h
    cases h
    rw [hf x y v a h1 r1 r3,CH hf h2 r2 r4]
    rfl
theorem CI {f:PV->PV->Option Bool}(hf:∀x v b,f x x=some b->R K mg ρ H x v->b=true) {uZ:Ad}{oi:An}:∀{ks:Ad}{xs:An}{vs:List V}{b:Bool},(∀k x,(k,x)∈ks.zip xs->(uZ.zip oi).lookup k=some x)->dw f uZ oi ks xs=some b->Rs K mg ρ H xs vs->b=true
 | [],xs,vs,b,_,h,_=>by cases xs<;>(cases h;rfl)
 | k::ks,[],vs,b,_,h,_=>by cases h;rfl
 | k::ks,x::xs,vs,b,hm,h,rx=>by
  obtain ⟨v,r,rfl,r1,r2⟩:=rx
  simp only [dw] at h
  rw [hm k x (by simp)] at h
  simp only at h
  cases h1:f x x with
  | none=>rw [h1] at h;cases h
  | some a =>
   cases h2:dw f uZ oi ks xs with
   | none=>rw [h1,h2] at h;cases h
   | some c =>
    rw [h1,h2] at h
    cases h
    rw [hf x v a h1 r1,CI hf (λk' x' h'=>hm k' x' (by simp [h'])) h2 r2]
    rfl
theorem CJ:∀{ks:Ad}{xs:An},ks.Nodup->∀k x,(k,x)∈ks.zip xs->(ks.zip xs).lookup k=some x
 | [],_,_,k,x,h=>by simp at h
 | _::_,[],_,k,x,h=>by simp at h
 | k0::ks,x0::xs,nd,k,x,h=>by
  rw [jQ] at nd
  rw [List.zip_cons_cons] at h ⊢
  rcases yE.mp h with e|h'
  ·cases e;simp [wa]
  ·have hk:k∈ks:=(List.of_mem_zip h').1
   have ne:(k==k0)=false:=by
    simp only [beq_eq_false_iff_ne]
    intro e;subst e;exact nd.1 hk
   rw [wa,ne]
   exact CJ nd.2 k x h'
end
def eG (P:Program) (W:World) (A:Around) (s:Shared) (u u':Value) (b:Bool):Prop:=∀(E:Aa) (Q:Bool->Shared->Prop),Q b s->wpAny (model P W) A (eqBool u u') Q E s
def cq (P:Program) (W:World) (A:Around) (s:Shared) (u u':Value) (b:Bool):Prop:=∀(E Q:Aa),Q (.bool b) s->wpAny (model P W) A (richCompare .Eq u u') Q E s
section
variable {P:Program}{W:World}{A:Around}{s:Shared}
def eG.of_refs {l b:Addr}{k:Bool}(u7:l≠b) (h:cq P W A s (.ref l) (.ref b) k):eG P W A s (.ref l) (.ref b) k:=λE Q hq=>by
 unfold eqBool
 refine jN (wpAny_ite_split (λeF=>absurd (by have:=eq_of_beq eF;injection this) u7) λ_=>?_)
 exact zp (h E _ (wx hq))
theorem MH {l b:Addr}{its aV:Array Value}{n n2:Nat}{dd ki:Option Addr}{sl fD:Array (Option Value)}{e:Nat->Bool}{E Q:Aa}
  (hl:s.heap.get? l=some { cls:=.type "tuple", dict:=dd,data:=.seq its n,slots:=sl }) (hb:s.heap.get? b=some { cls:=.type "tuple", dict:=ki,data:=.seq aV n2,slots:=fD })
  (he:∀j (h1:j<its.size) (h2:j<aV.size),eG P W A.in1 s its[j] aV[j] (e j)) (h:Q (.bool ((List.range (min its.size aV.size)).all e&&its.size==aV.size)) s) :
  wpAny (model P W) A.in1 (Builtin.«tuple.__eq__» ⟨[.ref l,.ref b],[]⟩) (λfin s'=>∃v,fin=.done (.ret v)/\Q v s') E s:=by
 obtain ⟨hp,g,d,tk,os⟩:=s
 have f2:=AutoSeq1.sub_tuple_tuple
 have hZ:(its.toList.zip aV.toList).length=min its.size aV.size:=by simp
 wp_walk using AutoSeq1.wpAny_loadPart' hl,AutoSeq1.wpAny_loadPart' hb,wpAny_forIn_list _ (λrest b s'=>b.1=none/\s'=⟨hp,g,d,tk,os⟩/\∃i,rest=(its.toList.zip aV.toList).drop i/\Q (.bool (((List.range (min its.size aV.size)).drop i).all e&&its.size==aV.size)) ⟨hp,g,d,tk,os⟩) _
 case turn =>
  rintro ⟨y,x⟩ rest b s' ⟨u9,rfl,i,hz,hR⟩
  have bu:i<(its.toList.zip aV.toList).length:=by
   rcases Nat.lt_or_ge i (its.toList.zip aV.toList).length with h'|h'
   ·exact h'
   ·rw [lX h'] at hz;cases hz
  have hm:i<min its.size aV.size:=hZ▸bu
  have h1:i<its.size:=by omega
  have h2:i<aV.size:=by omega
  rw [jP bu] at hz
  injection hz with iG gj
  have hy:y=its[i]:=by have:=congrArg Prod.fst iG;simpa using this
  have hx:x=aV[i]:=by have:=congrArg Prod.snd iG;simpa using this
  subst hy hx
  have hd:(List.range (min its.size aV.size)).drop i=i::(List.range (min its.size aV.size)).drop (i+1):=by simp [jP,hm]
  rw [hd,List.all_cons] at hR
  refine zp (he i h1 h2 _ _ ?_)
  cases hy:e i with
  | true =>
   rw [hy] at hR
   wp_walk
   exact ⟨rfl,rfl,i+1,gj,by simpa using hR⟩
  | false =>
   rw [hy] at hR
   wp_walk
   exact ⟨_,rfl,by simpa using hR⟩
 case fin =>
  rintro ⟨b1,b2⟩ s' ⟨u9,rfl,i,hz,hR⟩
  simp only at u9
  subst u9
  have MK:min its.size aV.size<=i:=by
   rcases Nat.lt_or_ge i (its.toList.zip aV.toList).length with h'|h'
   ·rw [jP h'] at hz;cases hz
   ·exact hZ▸h'
  rw [lX (by simpa using MK)] at hR
  wp_walk
  exact ⟨_,rfl,by simpa [Builtin.Tuple.tupleCompareSizes] using hR⟩
 case h=>exact ⟨rfl,rfl,0,rfl,by simpa using h⟩
def cq.tuples {l b:Addr}{its aV:Array Value}{e:Nat->Bool}(hl:s.heap.IsTuple l its) (hb:s.heap.IsTuple b aV) (hu:A.units<cLine)
  (he:∀j (h1:j<its.size) (h2:j<aV.size),eG P W A.in1 s its[j] aV[j] (e j)):cq P W A s (.ref l) (.ref b) ((List.range (min its.size aV.size)).all e&&its.size==aV.size):=λE Q h=>by
 obtain ⟨⟨cls,dd,data,sl⟩,ho,hc,n,hd⟩:=id hl
 obtain ⟨⟨rV,ki,data2,fD⟩,ho2,f_,n2,hd2⟩:=id hb
 simp only at hc hd f_ hd2
 subst hc hd f_ hd2
 refine wpAny_richCompare_same_room (op:=.Eq) ⟨_,ho,rfl⟩ ⟨_,ho2,rfl⟩ F.slot_tuple_eq (jX F.slot_tuple_eq ⟨_,ho,rfl⟩ F.entry_tuple_eq (MH (Q:=λv s'=>v ≠ .notImplemented/\Q v s') ho ho2 he (show Value.bool ((List.range (min its.size aV.size)).all e&&its.size==aV.size)≠Value.notImplemented/\Q (.bool ((List.range (min its.size aV.size)).all e&&its.size==aV.size)) s from ⟨(λx=>nomatch x),h⟩)) (F.args_tuple_eq_2 _ _)) hu
end
section
variable {X:Cx}{Er:XK}{K:Frag}{mg:Ab}{ρ:Ae}{pins:Ac}{U:L2.St}{H:Hp}{s:Shared}{st:ao}
def u_ {k:Str}{ks:Ad}{v:V}{vs:List V}{us:List (Key×Value)}(h:KV (kz (k::ks) (v::vs)) us):∃u r,us=(Sum.inr k,u)::r/\RelV v u/\KV (kz ks vs) r:=by
 cases h with
 | @cons p q ps qs h t =>
  obtain ⟨h1,h2⟩:=h
  obtain ⟨k',u⟩:=q
  have:k'=Sum.inr k:=h1.symm
  subst this
  exact ⟨u,qs,rfl,h2,t⟩
theorem CK {f:Str}:∀{ks:Ad}{xs:An}{vs:List V},Rs K mg ρ H xs vs->(ks.zip xs).lookup f=none->(ks.zip vs).lookup f=none
 | [],_,_,_,_=>by simp
 | k::ks,[],_,r,_=>by cases r;simp
 | k::ks,y::xs,_,r,h=>by
  obtain ⟨v,r',rfl,h1,h2⟩:=r
  simp only [List.zip_cons_cons,wa] at h ⊢
  split at h
  ·cases h
  ·exact CK h2 h
def ML {f:PV->PV->Option Bool}{G:Value->Value->Bool->Prop}(hf:∀x y v w u u' b,f x y=some b->R K mg ρ H x v->R K mg ρ H y w->RelV v u->RelV w u'->G u u' b) {xs ys:An}{vs ws:List V}{its aV:Af}{e:Nat->Bool}(h2:Rs K mg ρ H xs vs) (h4:Rs K mg ρ H ys ws) (r1:Vals vs its) (r2:Vals ws aV) (he:∀j x y,xs[j]?=some x->ys[j]?=some y->f x y=some (e j)) :
  ∀j (g1:j<its.toArray.size) (g2:j<aV.toArray.size),G its.toArray[j] aV.toArray[j] (e j):=by
 intro j g1 g2
 have l1:=h2.len
 have l2:=h4.len
 have l3:=r1.length
 have l4:=r2.length
 have k1:j<xs.length:=by rw [l1,l3];simpa using g1
 have k2:j<ys.length:=by rw [l2,l4];simpa using g2
 obtain ⟨v1,e1,uv⟩:=h2.get (yB k1)
 obtain ⟨v2,e2,uw⟩:=h4.get (yB k2)
 obtain ⟨u1,f1,ux⟩:=r1.get e1
 obtain ⟨u2,f2,uz⟩:=r2.get e2
 have w1:its.toArray[j]=u1:=by
  obtain ⟨_,z⟩:=yt.mp f1
  simpa using z
 have w2:aV.toArray[j]=u2:=by
  obtain ⟨_,z⟩:=yt.mp f2
  simpa using z
 rw [w1,w2]
 exact hf xs[j] ys[j] v1 v2 u1 u2 (e j) (he j _ _ (yB k1) (yB k2)) uv uw ux uz
end
section
variable {X:Cx}{Er:XK}{K:Frag}{mg:Ab}
theorem cS:∀{ks:Ad}{us:Af},us.length=ks.length->(∀(j:Nat) v,us[j]?=some v->∃k,ks[j]?=some k/\∃t,v=Value.str k t)->Vals (ks.map V.str) us
 | [],[],_,_=>.nil
 | [],_::_,h,_=>by simp at h
 | _::_,[],h,_=>by simp at h
 | k::ks,u::us,h,hv=>by
  obtain ⟨k',e,t,ev⟩:=hv 0 u rfl
  simp at e
  subst e
  exact .cons ⟨t,ev⟩ (cS (by simpa using h) λj v e=>by simpa using hv (j+1) v (by simpa using e))
def MM (hc:X.calm=true):bQ X (.type "list") (λxs H Q=>∃p ks vs,xs=[.ref p]/\H p=some (.dK (kz ks vs))/\ks.length=vs.length/\∀l,H l=none->Q (.ref l) (upd H l (.lst (ks.map V.str)))):=by
 intro pins s U H xs us Q I r h
 obtain ⟨p,ks,vs,rfl,hp,hl,q⟩:=h
 obtain ⟨u,rfl,rx⟩:=iA r
 cases rx
 obtain ⟨hz,lo,kv,gL,hd⟩:=jw I.hok (.inl hp)
 obtain ⟨ep,kY⟩:=hd.dictAt
 have lk:kv.length=ks.length:=by rw [<-gL.length];simp [kz,hl]
 have keys:kv.map (·.1)=ks.map Sum.inr:=by
  rw [<-gL.keys]
  simp [kz,hl,List.map_fst_zip]
 refine kdl_call (kdl_dict (knd:=aY X.prog X.w) (kvs:=kv) (ep:=ep) lo) (I.ok.hd hc) kY (by rw [<-gL.length];exact hz) λh' tk bU c' hk hS fq=>?_
 have hv:Vals (ks.map V.str) bU.toList:=cS (by rw [Array.length_toList,fq.1,lk]) λj v e=>by
  obtain ⟨k,x,e1,e2⟩:=fq.2 j v (by rw [<-Array.getElem?_toList];exact e)
  have e3:(kv.map (·.1))[j]?=some k:=by rw [jY,e1];rfl
  rw [keys,jY] at e3
  cases e4:ks[j]? with
  | none=>rw [e4] at e3;cases e3
  | some k' =>
   rw [e4] at e3
   cases e3
   rcases wn (show dP (Sum.inr k') v=true from e2) with ⟨i,t,z,_⟩|⟨y,t,z,z'⟩
   ·cases z
   ·cases z;exact ⟨k',rfl,t,z'⟩
 exact ⟨.ref s.heap.objs.size,_,I.laid (t':=tk) hk (yd _) (show aZ X.prog X.w _ h' _ (.lst (ks.map V.str)) from ⟨by rw [jZ,<-lk,<-gL.length];exact hz,bU.toList,c',hv,by simpa using hS⟩),rfl,q _ I.fresh⟩
def oJ:Al:=λxs st=>match xs with
 | [.ref n]=>match st[n]? with
  | some (.dic ks _)=>.ok (.ref st.length) (st++[.lst (ks.map PV.str)])
  | _=>qz xs st
 | _=>qz xs st
theorem CL {ρ:Ae}{H:Hp}:∀{ks:Ad},Rs K mg ρ H (ks.map PV.str) (ks.map V.str)
 | []=>rfl
 | k::ks=>⟨_,_,rfl,rfl,CL⟩
def MP (hc:X.calm=true):cV X (.type "list") oJ:=by
 obtain ⟨r,h1,h2⟩:=KQ (X:=X)
 refine ⟨_,h1.or (MM hc),fun ρ H st xs vs Q E s rx h=>?_⟩
 by_cases hx:∃n ks ys,xs=[.ref n]/\st[n]?=some (.dic ks ys)
 ·obtain ⟨n,ks,ys,rfl,e⟩:=hx
  have h:Out X.K X.mg ρ H (.ok (.ref st.length) (st++[.lst (ks.map PV.str)])) (gV X.K X.mg Q) E:=by
   simpa only [oJ,e] using h
  obtain ⟨v,rfl,rv⟩:=Rs.one rx
  obtain ⟨a,vs,rfl,_,k1,_,k3⟩:=R.refD s rv e
  exact .inr ⟨a,ks,vs,rfl,k1,k3,λl hl=>Out.newList (xs:=ks.map PV.str) h s CL hl⟩
 ·refine .inl (h2 ρ H st xs vs Q E s rx ?_)
  have:oJ xs st=qz xs st:=by
   unfold oJ
   split
   ·rename_i n
    split
    ·rename_i ks ys e;exact absurd ⟨n,ks,ys,rfl,e⟩ hx
    ·rfl
   ·rfl
  rw [this] at h
  exact h
def va {ss:List Stmt}:dW X Er ss qG:=bY.weak GG λD U H ⟨env,st,ρ,re,rs,h⟩=>h
end
section
variable {P:Program}{W:World}{A:Around}{s:Shared}{E:Aa}{K:Type} [DecidableEq K] {knd:KeyKind P W K}
def mM {d:Addr} {kv:List (K×Value)} {x:Value} {T:String} {name:Str} (sl:Slot "dict" name "dict.__eq__") (hd:s.heap.DictOf knd d kv) (hx:s.TypeIs x T) (hs:isSubtype (.type T) (.type "dict")=pure false) (Q:Aa) (h:Q .notImplemented s) :
  wpAny (model P W) A (call (.builtin "dict.__eq__") [.ref d,x]) Q E s:=by
 refine jX sl hd.typeIs PySem.F.entry_dict_eq ?_ (PySem.F.args_dict_eq_2 _ _)
 show wpAny _ _ (Builtin.Dict.dictSlotArgs "__eq__" ⟨[.ref d,x],[]⟩ >>= _) _ _ s
 refine zp ?_
 unfold Builtin.Dict.dictSlotArgs
 refine zp (wpAny_notOrdered_dict hd.typeIs ?_)
 show wpAny _ _ (pure (Value.ref d,x)) _ _ s
 refine zK ?_
 refine zp (wpAny_isInstance hx hs ?_)
 simp only [Bool.not_false,wy]
 exact zp (wpAny_rule (zK ⟨_,rfl,h⟩))
def CM {d:Addr} {o:Obj} {b:Int} {u:Tok} {name:Str} (sl:Slot "int" name "int.__eq__") (ho:s.heap.get? d=some o) (hd:o.cls=.type "dict") {es:Array DictEntry} {ep:Nat} (hq':o.data=.dict es ep) (Q:Aa) (h:Q .notImplemented s) :
  wpAny (model P W) A (call (.builtin "int.__eq__") [.int b u,.ref d]) Q E s:=by
 refine jX sl (typeIs_int s b u) PySem.F.entry_int_eq ?_ (PySem.F.args_int_eq_2 _ _)
 obtain ⟨hp,g,dd,tk,os⟩:=s
 obtain ⟨c,d1,d2,d3⟩:=o
 cases hd
 cases hq'
 wp_walk using AutoSeq1.wpAny_loadPart' ho,wpAny_load ho
 exact ⟨_,rfl,h⟩
def CN {d:Addr} {o:Obj} {b:Str} {u:Tok} {name:Str} (sl:Slot "str" name "str.__eq__") (ho:s.heap.get? d=some o) (hd:o.cls=.type "dict") {es:Array DictEntry} {ep:Nat} (hq':o.data=.dict es ep) (Q:Aa) (h:Q .notImplemented s) :
  wpAny (model P W) A (call (.builtin "str.__eq__") [.str b u,.ref d]) Q E s:=by
 refine jX sl (typeIs_str s b u) PySem.F.entry_str_eq ?_ (PySem.F.args_str_eq_2 _ _)
 obtain ⟨hp,g,dd,tk,os⟩:=s
 obtain ⟨c,d1,d2,d3⟩:=o
 cases hd
 cases hq'
 wp_walk using AutoSeq1.wpAny_loadPart' ho,wpAny_load ho
 exact ⟨_,rfl,h⟩
def CO {d t:Addr} {o ot:Obj} {its:Array Value} {n:Nat} {name:Str} (sl:Slot "tuple" name "tuple.__eq__") (ht:s.heap.get? t=some ot) (hc:ot.cls=.type "tuple") (hq:ot.data=.seq its n) (ho:s.heap.get? d=some o) (hd:o.cls=.type "dict") {es:Array DictEntry} {ep:Nat} (hq':o.data=.dict es ep) (Q:Aa) (h:Q .notImplemented s) :
  wpAny (model P W) A (call (.builtin "tuple.__eq__") [.ref t,.ref d]) Q E s:=by
 refine jX sl ⟨_,ht,hc⟩ PySem.F.entry_tuple_eq ?_ (PySem.F.args_tuple_eq_2 _ _)
 obtain ⟨hp,g,dd,tk,os⟩:=s
 obtain ⟨c,d1,d2,d3⟩:=o
 obtain ⟨c',WE,WG,WH⟩:=ot
 cases hd
 cases hq'
 cases hc
 cases hq
 have f1:=PySem.F.sub_dict_tuple
 wp_walk using AutoSeq1.wpAny_loadPart' ht,AutoSeq1.wpAny_loadPart' ho
 exact ⟨_,rfl,h⟩
def eG.of_ref {d:Addr}{u':Value}{k:Bool}(u7:Value.ref d≠u') (h:cq P W A s (.ref d) u' k):eG P W A s (.ref d) u' k:=λE Q hq=>by
 unfold eqBool
 refine jN (wpAny_ite_split (λeF=>absurd (eq_of_beq eF) u7) λ_=>?_)
 exact zp (h E _ (wx hq))
def eG.of_num {d:Addr}{b:Int}{u:Tok}{k:Bool}(h:cq P W A s (.int b u) (.ref d) k):eG P W A s (.int b u) (.ref d) k:=λE Q hq=>by
 unfold eqBool
 refine jN (wpAny_ite_split (λeF=>absurd (eq_of_beq eF) nofun) λ_=>?_)
 exact zp (h E _ (wx hq))
def eG.of_txt {d:Addr}{b:Str}{u:Tok}{k:Bool}(h:cq P W A s (.str b u) (.ref d) k):eG P W A s (.str b u) (.ref d) k:=λE Q hq=>by
 unfold eqBool
 refine jN (wpAny_ite_split (λeF=>absurd (eq_of_beq eF) nofun) λ_=>?_)
 exact zp (h E _ (wx hq))
def cq.rec_num {d:Addr}{kv:List (K×Value)}(hd:s.heap.DictOf knd d kv) (b:Int) (u:Tok) (hu:A.units<cLine):cq P W A s (.ref d) (.int b u) false:=λE Q h=>by
 obtain ⟨o,es,ep,ho,hx,gv,_⟩:=id hd
 have ty:=hd.typeIs
 obtain ⟨o',ho',hc⟩:=id ty
 rw [ho] at ho'
 cases ho'
 exact SeqAt.rc_eq_decline_or (k:=false) ty (typeIs_int s b u) (by decide) PySem.F.sub_int_dict PySem.F.slot_dict_eq PySem.F.slot_int_eq_refl (mM PySem.F.slot_dict_eq hd (typeIs_int s b u) PySem.F.sub_int_dict) (CM PySem.F.slot_int_eq_refl ho hc gv)
  (λ_ hq=>wpAny_of_eq (rfl:isSame (.ref d) (.int b u)=pure false) hq) (.inr hu) h
def cq.num_rec {d:Addr}{kv:List (K×Value)}(hd:s.heap.DictOf knd d kv) (b:Int) (u:Tok) (hu:A.units<cLine):cq P W A s (.int b u) (.ref d) false:=λE Q h=>by
 obtain ⟨o,es,ep,ho,hx,gv,_⟩:=id hd
 have ty:=hd.typeIs
 obtain ⟨o',ho',hc⟩:=id ty
 rw [ho] at ho'
 cases ho'
 exact SeqAt.rc_eq_decline_or (k:=false) (typeIs_int s b u) ty (by decide) PySem.F.sub_dict_int PySem.F.slot_int_eq PySem.F.slot_dict_eq_refl (CM PySem.F.slot_int_eq ho hc gv) (mM PySem.F.slot_dict_eq_refl hd (typeIs_int s b u) PySem.F.sub_int_dict)
  (λ_ hq=>wpAny_of_eq (rfl:isSame (.int b u) (.ref d)=pure false) hq) (.inr hu) h
def cq.rec_txt {d:Addr}{kv:List (K×Value)}(hd:s.heap.DictOf knd d kv) (b:Str) (u:Tok) (hu:A.units<cLine):cq P W A s (.ref d) (.str b u) false:=λE Q h=>by
 obtain ⟨o,es,ep,ho,hx,gv,_⟩:=id hd
 have ty:=hd.typeIs
 obtain ⟨o',ho',hc⟩:=id ty
 rw [ho] at ho'
 cases ho'
 exact SeqAt.rc_eq_decline_or (k:=false) ty (typeIs_str s b u) (by decide) PySem.F.sub_str_dict PySem.F.slot_dict_eq PySem.F.slot_str_eq_refl (mM PySem.F.slot_dict_eq hd (typeIs_str s b u) PySem.F.sub_str_dict) (CN PySem.F.slot_str_eq_refl ho hc gv)
  (λ_ hq=>wpAny_of_eq (rfl:isSame (.ref d) (.str b u)=pure false) hq) (.inr hu) h
def cq.txt_rec {d:Addr}{kv:List (K×Value)}(hd:s.heap.DictOf knd d kv) (b:Str) (u:Tok) (hu:A.units<cLine):cq P W A s (.str b u) (.ref d) false:=λE Q h=>by
 obtain ⟨o,es,ep,ho,hx,gv,_⟩:=id hd
 have ty:=hd.typeIs
 obtain ⟨o',ho',hc⟩:=id ty
 rw [ho] at ho'
 cases ho'
 exact SeqAt.rc_eq_decline_or (k:=false) (typeIs_str s b u) ty (by decide) PySem.F.sub_dict_str PySem.F.slot_str_eq PySem.F.slot_dict_eq_refl (CN PySem.F.slot_str_eq ho hc gv) (mM PySem.F.slot_dict_eq_refl hd (typeIs_str s b u) PySem.F.sub_str_dict)
  (λ_ hq=>wpAny_of_eq (rfl:isSame (.str b u) (.ref d)=pure false) hq) (.inr hu) h
def mO {d t:Addr}{kv:List (K×Value)}{its:Array Value}(hd:s.heap.DictOf knd d kv) (ht:s.heap.IsTuple t its):d≠t:=λe=>by
 subst e
 obtain ⟨o,ho,hc⟩:=hd.typeIs
 obtain ⟨o2,ho2,f_,_⟩:=ht
 rw [ho] at ho2
 cases ho2
 rw [hc] at f_
 exact absurd f_ (by simp)
def cq.rec_row {d t:Addr}{kv:List (K×Value)}{its:Array Value}(hd:s.heap.DictOf knd d kv) (ht:s.heap.IsTuple t its) (hu:A.units<cLine):cq P W A s (.ref d) (.ref t) false:=λE Q h=>by
 have ne:=mO hd ht
 obtain ⟨o,es,ep,ho,hx,gv,_⟩:=id hd
 have ty:=hd.typeIs
 obtain ⟨o',ho',hc⟩:=id ty
 rw [ho] at ho'
 cases ho'
 obtain ⟨ot,hW,kZ,n,vb⟩:=id ht
 exact SeqAt.rc_eq_decline_or (k:=false) ty ⟨_,hW,kZ⟩ (by decide) PySem.F.sub_tuple_dict PySem.F.slot_dict_eq PySem.F.slot_tuple_eq_refl (mM PySem.F.slot_dict_eq hd ⟨_,hW,kZ⟩ PySem.F.sub_tuple_dict) (CO PySem.F.slot_tuple_eq_refl hW kZ vb ho hc gv)
  (λ_ hq=>wpAny_isSame_ref_other ne ho hW (by rw [hc];simp) hq) (.inr hu) h
def cq.row_rec {d t:Addr}{kv:List (K×Value)}{its:Array Value}(hd:s.heap.DictOf knd d kv) (ht:s.heap.IsTuple t its) (hu:A.units<cLine):cq P W A s (.ref t) (.ref d) false:=λE Q h=>by
 have ne:=mO hd ht
 obtain ⟨o,es,ep,ho,hx,gv,_⟩:=id hd
 have ty:=hd.typeIs
 obtain ⟨o',ho',hc⟩:=id ty
 rw [ho] at ho'
 cases ho'
 obtain ⟨ot,hW,kZ,n,vb⟩:=id ht
 exact SeqAt.rc_eq_decline_or (k:=false) ⟨_,hW,kZ⟩ ty (by decide) PySem.F.sub_dict_tuple PySem.F.slot_tuple_eq PySem.F.slot_dict_eq_refl (CO PySem.F.slot_tuple_eq hW kZ vb ho hc gv) (mM PySem.F.slot_dict_eq_refl hd ⟨_,hW,kZ⟩ PySem.F.sub_tuple_dict)
  (λ_ hq=>SeqAt.wpAny_isSame_ref_other' ne.symm hW ho (by rw [hc];simp) hq) (.inr hu) h
inductive cG (P:Program) (W:World) (A:Around) (s:Shared) (kb:List (K×Value)):List (K×Value)->Bool->Prop
 | nil:cG P W A s kb [] true
 | miss {k:K} {v:Value} {r:List (K×Value)} (h:valueAt kb k=none):cG P W A s kb ((k,v)::r) false
 | hit {k:K} {v y:Value} {r:List (K×Value)} {e b:Bool} (h:valueAt kb k=some y) (he:eG P W A s v y e) (hr:cG P W A s kb r b):cG P W A s kb ((k,v)::r) (e&&b)
def cG.inv {kb r:List (K×Value)}{k:K}{v:Value}{b:Bool}(h:cG P W A s kb ((k,v)::r) b):(valueAt kb k=none/\b=false)\/∃y e c,valueAt kb k=some y/\eG P W A s v y e/\cG P W A s kb r c/\b=(e&&c):=by
 cases h with
 | miss h=>exact .inl ⟨h,rfl⟩
 | hit h he hr=>exact .inr ⟨_,_,_,h,he,hr,rfl⟩
theorem qO {nm:String}{a b:Addr}{ka kb:List (K×Value)}{r:Bool}{Q:Bool->Shared->Prop}(la:(a==sysModules)=false) (lb:(b==sysModules)=false) (da:s.heap.DictOf knd a ka) (db:s.heap.DictOf knd b kb)
  (hits:ka.length=kb.length->cG P W A s kb ka r) (h:Q (ka.length==kb.length&&r) s):wpAny (model P W) A (Builtin.Dict.samePairs nm a b) Q E s:=by
 obtain ⟨oa,ea,na,ga,_,qa,ha,pa,_⟩:=da
 obtain ⟨ob,eb,nb,gb,_,qb,hb,pb,_⟩:=db
 have za:ka.length=ea.size:=by rw [<-pa.length];exact Array.length_toList
 have zb:kb.length=eb.size:=by rw [<-pb.length];exact Array.length_toList
 have look:∀k,findBy knd.is eb k=valueAt kb k:=λk=>by
  rw [<-pb.find k]
  clear zb pb hb qb gb
  obtain ⟨l⟩:=eb
  simp [findBy]
 rw [za,zb] at h
 unfold Builtin.Dict.samePairs Builtin.Dict.showsAll
 rw [zF (by rw [la];decide),zF (by rw [lb];decide)]
 refine zp (zK (zp (zK (zp (wpAny_dictEntries ga qa ?_)))))
 dsimp only
 refine zp (wpAny_dictEntries gb qb ?_)
 by_cases hz:ea.size=eb.size
 ·have h':Q r s:=by simpa [hz] using h
  have hh:=hits (by rw [za,zb];exact hz)
  rw [zF (by rw [hz];simp)]
  refine zp (wpAny_dictEpoch ga qa (zp ?_))
  rw [Std.Legacy.Range.forIn_eq_forIn_range']
  simp only [Std.Legacy.Range.size,Nat.sub_zero,Nat.add_sub_cancel,Nat.div_one]
  refine wpAny_forIn_list _ (λrest q s'=>s'=s/\q=(none,())/\∃i,rest=List.range' i (ea.size-i)/\i<=ea.size/\cG P W A s kb (ka.drop i) r) _ ?_ ?_ _ _ ⟨rfl,rfl,0,by simp,jc _,hh⟩
  ·rintro x rest q s' ⟨rfl,rfl,i,hr,hi,hp⟩
   have lt:i<ea.size:=by
    rcases Nat.lt_or_ge i ea.size with c|c
    ·exact c
    ·rw [Nat.sub_eq_zero_of_le c] at hr;simp at hr
   have e0:ea.size-i=(ea.size-(i+1))+1:=by omega
   rw [e0,List.range'_succ] at hr
   injection hr with hx gj
   subst hx
   refine zp (wpAny_dictEntries ga qa ?_)
   rw [Array.getElem?_eq_getElem lt]
   have lt':x<ka.length:=by rw [za];exact lt
   obtain ⟨k,v,CQ⟩:∃k v,ka[x]=(k,v):=⟨_,_,rfl⟩
   have vc:ka.drop x=(k,v)::ka.drop (x+1):=by rw [<-CQ];exact jP lt'
   obtain ⟨lI,CS⟩:=pa.get? (i:=x) (e:=ea[x]) (k:=k) (v:=v) (by rw [Array.getElem?_toList];exact Array.getElem?_eq_getElem lt) (by rw [yB lt',CQ])
   obtain ⟨k',oz,hs⟩:=ha ea[x] (Array.getElem_mem lt)
   rw [knd.inj _ _ _ oz lI] at hs
   rw [vc] at hp
   show wpAny _ _ (holding [ea[x].key,ea[x].val] _ >>= _) _ _ _
   rw [hs]
   refine zp (jN (zp (wpAny_dictFind_of lI gb qb hb ?_)))
   cases hj:eb.findIdx? λe=>knd.is k e.key with
   | none =>
    have hn:valueAt kb k=none:=by rw [<-look k,findBy_of_findIdx?,hj]
    rcases hp.inv with ⟨_,er⟩|⟨y,_,_,hy,_⟩
    ·rw [er] at h'
     refine zK ?_
     show wpAny _ _ (if (!false)=true then _ else _) _ _ _
     rw [zu (by decide)]
     exact zK (zK h')
    ·rw [hn] at hy;exact nomatch hy
   | some j =>
    obtain ⟨jl,_,_⟩:=Array.findIdx?_eq_some_iff_getElem.mp hj
    have pY:valueAt kb k=some eb[j].val:=by
     rw [<-look k,findBy_of_findIdx?,hj]
     simp [Array.getElem?_eq_getElem jl]
    refine zp (wpAny_dictEntries gb qb ?_)
    rw [Array.getElem?_eq_getElem jl]
    rcases hp.inv with ⟨hn,_⟩|⟨y,e,c,hy,he,CT,er⟩
    ·rw [pY] at hn;exact nomatch hn
    ·have ey:eb[j].val=y:=Option.some.inj (pY.symm.trans hy)
     rw [<-ey,<-CS] at he
     refine jN (he _ _ ?_)
     cases e with
     | false =>
      rw [er,Bool.false_and] at h'
      show wpAny _ _ (if (!false)=true then _ else _) _ _ _
      rw [zu (by decide)]
      exact zK (zK h')
     | true =>
      rw [Bool.true_and] at er
      rw [<-er] at CT
      show wpAny _ _ (if (!true)=true then _ else _) _ _ _
      rw [zF (by decide)]
      refine zp (wpAny_dictEpoch ga qa ?_)
      rw [zF (by simp)]
      exact zK ⟨rfl,rfl,x+1,gj,lt,CT⟩
  ·rintro q s' ⟨rfl,rfl,i,hr,hi,hp⟩
   have MR:i=ea.size:=by
    rcases Nat.lt_or_ge i ea.size with c|c
    ·have e:ea.size-i=(ea.size-(i+1))+1:=by omega
     rw [e,List.range'_succ] at hr;exact nomatch hr
    ·omega
   refine zK ?_
   rw [MR,<-za,List.drop_length] at hp
   cases hp
   exact h'
 ·rw [zu (by simpa using hz)]
  have hf:(ea.size==eb.size)=false:=by simpa using hz
  rw [hf,Bool.false_and] at h
  exact zp (wpAny_rule (zK h))
def cq.recs {a b:Addr}{ka kb:List (K×Value)}{r:Bool}(la:(a==sysModules)=false) (lb:(b==sysModules)=false) (da:s.heap.DictOf knd a ka) (db:s.heap.DictOf knd b kb) (hu:A.units<cLine)
  (hits:ka.length=kb.length->cG P W A.in1 s kb ka r):cq P W A s (.ref a) (.ref b) (ka.length==kb.length&&r):=λE Q h=>by
 refine wpAny_richCompare_same_room (op:=.Eq) da.typeIs db.typeIs PySem.F.slot_dict_eq (jX PySem.F.slot_dict_eq da.typeIs PySem.F.entry_dict_eq ?_ (PySem.F.args_dict_eq_2 _ _)) hu
 show wpAny _ _ (Builtin.Dict.dictSlotArgs "__eq__" ⟨[.ref a,.ref b],[]⟩ >>= _) _ _ s
 refine zp ?_
 unfold Builtin.Dict.dictSlotArgs
 refine zp (wpAny_notOrdered_dict da.typeIs ?_)
 show wpAny _ _ (pure (Value.ref a,Value.ref b)) _ _ s
 refine zK (zp (wpAny_isInstance (T := "dict") db.typeIs PySem.F.sub_dict_dict ?_))
 simp only [Bool.not_true,Bool.false_eq_true,if_false]
 refine zp (zK (zp (zK (zp (qO la lb da db hits ?_)))))
 refine zK ⟨_,rfl,(λx=>nomatch x),?_⟩
 simpa using h
end
section
variable {P:Program}{W:World}
end
def vd:Option SO->Bool
 | some (.dic _ _)=>true
 | _=>false
def fK (st:ao):PV->Option Nat
 | .int _=>some 0
 | .str _=>some 1
 | .tup _=>some 2
 | .ref a=>if vd st[a]?=true then some 3 else none
 | _=>none
def lP (f:PV->PV->Option Bool):Option SO->Option SO->Option Bool
 | some (.dic ks xs),some (.dic cz cU)=>if ks.Nodup/\ks.length=xs.length then if ks.length=cz.length then dw f cz cU ks xs else some false else none
 | _,_=>none
def ve:Option Nat->Option Nat->Option Bool
 | some i,some j=>if i=j then none else some false
 | _,_=>none
def eqT (st:ao):Nat->PV->PV->Option Bool
 | 0,_,_=>none
 | n+1,x,y=>match x,y with
  | .int a,.int b=>some (a==b)
  | .str a,.str b=>some (a==b)
  | .tup xs,.tup ys=>fj (eqT st n) xs ys
  | .ref a,.ref b=>lP (eqT st n) st[a]? st[b]?
  | x,y=>ve (fK st x) (fK st y)
section
variable {X:Cx}{Er:XK}{K:Frag}{mg:Ab}{ρ:Ae}{pins:Ac}{U:L2.St}{H:Hp}{s:Shared}{st:ao}
inductive Kn (K:Frag) (mg:Ab) (ρ:Ae) (H:Hp) (st:ao):PV->V->Nat->Prop
 | num (i:Int):Kn K mg ρ H st (.int i) (.int i) 0
 | txt (z:Str):Kn K mg ρ H st (.str z) (.str z) 1
 | row {xs:An} {a:Addr} {vs:List V} (h:bg K H a vs) (r:Rs K mg ρ H xs vs):Kn K mg ρ H st (.tup xs) (.ref a) 2
 | rec_ {n:Nat} {a:Addr} {ks:Ad} {xs:An} {vs:List V} (e:st[n]?=some (.dic ks xs)) (ha:ρ[n]?=some a) (h:H a=some (.dK (kz ks vs))) (r:Rs K mg ρ H xs vs) (l:ks.length=vs.length):Kn K mg ρ H st (.ref n) (.ref a) 3
def Kn.of (S:bf K mg ρ H st) {x:PV}{v:V}{i:Nat}(r:R K mg ρ H x v) (h:fK st x=some i):Kn K mg ρ H st x v i:=by
 cases x with
 | int j=>cases h;cases r;exact .num j
 | str z=>cases h;cases r;exact .txt z
 | tup xs=>cases h;obtain ⟨a,vs,rfl,h1,h2⟩:=r;exact .row h1 h2
 | ref n =>
  simp only [fK] at h
  split at h
  ·rename_i hd
   cases h
   cases e:st[n]? with
   | none=>rw [e] at hd;cases hd
   | some so =>
    cases so with
    | dic ks xs =>
     obtain ⟨a,vs,rfl,ha,k1,k2,k3⟩:=R.refD S r e
     exact .rec_ e ha k1 k2 k3
    | lst _=>rw [e] at hd;cases hd
    | ins _ _ _=>rw [e] at hd;cases hd
    | fdi _ _=>rw [e] at hd;cases hd
    | dit _ _=>rw [e] at hd;cases hd
  ·cases h
 | _=>cases h
def MU (I:Inv X pins U H s) {x y:PV}{v:V}{i j:Nat}(hx:Kn X.K mg ρ H st x v i) (hy:Kn X.K mg ρ H st y v j):i=j:=by
 cases hx with
 | num=>cases hy;rfl
 | txt=>cases hy;rfl
 | row h1 r1 =>
  cases hy with
  | row=>rfl
  | rec_ e ha h2 =>
   obtain ⟨_,_,kv,_,d⟩:=jw I.hok (.inl h2)
   obtain ⟨its,_,p,_⟩:=I.tuple h1
   exact absurd rfl (mO d p)
 | rec_ e ha h2 =>
  cases hy with
  | rec_=>rfl
  | row h1 r1 =>
   obtain ⟨_,_,kv,_,d⟩:=jw I.hok (.inl h2)
   obtain ⟨its,_,p,_⟩:=I.tuple h1
   exact absurd rfl (mO d p)
def MV (I:Inv X pins U H s) {x y:PV}{v w:V}{u u':Value}{i j:Nat}{A:Around}(hx:Kn X.K mg ρ H st x v i) (hy:Kn X.K mg ρ H st y w j) (rv:RelV v u) (rw:RelV w u') (dM:i≠j) (hu:A.units<cLine):eG X.prog X.w A s u u' false/\cq X.prog X.w A s u u' false:=by
 cases hx with
 | num a =>
  obtain ⟨t,rfl⟩:=rv
  cases hy with
  | num=>exact absurd rfl dM
  | txt b=>obtain ⟨t',rfl⟩:=rw;exact ⟨λE Q q=>SeqAt.EqAt.int_str a t b t' _ _ E Q q,λE Q q=>SeqAt.RcAt.int_str a t b t' _ _ E Q q⟩
  | row h1 r1 =>
   cases rw
   obtain ⟨its,_,p,_⟩:=I.tuple h1
   exact ⟨λE Q q=>SeqAt.EqAt.int_tuple a t p hu _ _ E Q q,λE Q q=>SeqAt.RcAt.int_tuple a t p hu _ _ E Q q⟩
  | rec_ e ha h2 =>
   cases rw
   obtain ⟨_,_,kv,_,d⟩:=jw I.hok (.inl h2)
   exact ⟨.of_num (.num_rec d a t hu),.num_rec d a t hu⟩
 | txt a =>
  obtain ⟨t,rfl⟩:=rv
  cases hy with
  | txt=>exact absurd rfl dM
  | num b=>obtain ⟨t',rfl⟩:=rw;exact ⟨λE Q q=>SeqAt.EqAt.str_int a t b t' _ _ E Q q,λE Q q=>SeqAt.RcAt.str_int a t b t' _ _ E Q q⟩
  | row h1 r1 =>
   cases rw
   obtain ⟨its,_,p,_⟩:=I.tuple h1
   exact ⟨λE Q q=>SeqAt.EqAt.str_tuple a t p hu _ _ E Q q,λE Q q=>SeqAt.RcAt.str_tuple a t p hu _ _ E Q q⟩
  | rec_ e ha h2 =>
   cases rw
   obtain ⟨_,_,kv,_,d⟩:=jw I.hok (.inl h2)
   exact ⟨.of_txt (.txt_rec d a t hu),.txt_rec d a t hu⟩
 | row h0 r0 =>
  cases rv
  obtain ⟨its,_,p,_⟩:=I.tuple h0
  cases hy with
  | row=>exact absurd rfl dM
  | num b=>obtain ⟨t',rfl⟩:=rw;exact ⟨λE Q q=>SeqAt.EqAt.tuple_int b t' p hu _ _ E Q q,λE Q q=>SeqAt.RcAt.tuple_int b t' p hu _ _ E Q q⟩
  | txt b=>obtain ⟨t',rfl⟩:=rw;exact ⟨λE Q q=>SeqAt.EqAt.tuple_str b t' p hu _ _ E Q q,λE Q q=>SeqAt.RcAt.tuple_str b t' p hu _ _ E Q q⟩
  | rec_ e ha h2 =>
   cases rw
   obtain ⟨_,_,kv,_,d⟩:=jw I.hok (.inl h2)
   have ne:=mO d p
   exact ⟨.of_ref (λz=>ne (by injection z with z;exact z.symm)) (.row_rec d p hu),.row_rec d p hu⟩
 | rec_ e0 WI h0 =>
  cases rv
  obtain ⟨_,_,kv,_,d⟩:=jw I.hok (.inl h0)
  cases hy with
  | rec_=>exact absurd rfl dM
  | num b=>obtain ⟨t',rfl⟩:=rw;exact ⟨.of_ref nofun (.rec_num d b t' hu),.rec_num d b t' hu⟩
  | txt b=>obtain ⟨t',rfl⟩:=rw;exact ⟨.of_ref nofun (.rec_txt d b t' hu),.rec_txt d b t' hu⟩
  | row h1 r1 =>
   cases rw
   obtain ⟨its,_,p,_⟩:=I.tuple h1
   have ne:=mO d p
   exact ⟨.of_ref (λz=>ne (by injection z)) (.rec_row d p hu),.rec_row d p hu⟩
def MY {a b:Option Nat}{k:Bool}(h:ve a b=some k):∃i j,a=some i/\b=some j/\i≠j/\k=false:=by
 unfold ve at h
 split at h
 ·split at h
  ·cases h
  ·rename_i i j c;cases h;exact ⟨i,j,rfl,rfl,c,rfl⟩
 ·cases h
inductive mP (st:ao) (f:PV->PV->Option Bool):PV->PV->Bool->Prop
 | num (a b:Int):mP st f (.int a) (.int b) (a==b)
 | txt (a b:Str):mP st f (.str a) (.str b) (a==b)
 | row {xs ys:An} {k:Bool} (h:fj f xs ys=some k):mP st f (.tup xs) (.tup ys) k
 | rec_ {a b:Nat} {k:Bool} (h:lP f st[a]? st[b]?=some k):mP st f (.ref a) (.ref b) k
 | apart {x y:PV} {i j:Nat} (hx:fK st x=some i) (hy:fK st y=some j) (h:i≠j):mP st f x y false
def zjk {n:Nat}{x y:PV}{k:Bool}(h:eqT st (n+1) x y=some k):mP st (eqT st n) x y k:=by
 unfold eqT at h
 split at h
 ·cases h;exact .num _ _
 ·cases h;exact .txt _ _
 ·exact .row h
 ·exact .rec_ h
 ·obtain ⟨i,j,h1,h2,h3,rfl⟩:=MY h
  exact .apart h1 h2 h3
def CU {f:PV->PV->Option Bool}{a b:Option SO}{k:Bool}(h:lP f a b=some k):∃ks xs cz cU,a=some (.dic ks xs)/\b=some (.dic cz cU)/\ks.Nodup/\ks.length=xs.length/\((ks.length=cz.length/\dw f cz cU ks xs=some k)\/(ks.length≠cz.length/\k=false)):=by
 unfold lP at h
 split at h
 ·rename_i ks xs cz cU
  split at h
  ·rename_i c
   split at h
   ·rename_i c';exact ⟨_,_,_,_,rfl,rfl,c.1,c.2,.inl ⟨c',h⟩⟩
   ·rename_i c';cases h;exact ⟨_,_,_,_,rfl,rfl,c.1,c.2,.inr ⟨c',rfl⟩⟩
  ·cases h
 ·cases h
def CV (I:Inv X pins U H s) (S:bf X.K mg ρ H st):∀(n:Nat) (x y:PV) (v:V) (b:Bool),eqT st n x y=some b->R X.K mg ρ H x v->R X.K mg ρ H y v->b=true:=by
 intro n
 induction n with
 | zero=>intro x y v b h;cases h
 | succ n ih =>
  intro x y v b h rx ry
  cases zjk h with
  | num a c=>cases rx;cases ry;simp
  | txt a c=>cases rx;cases ry;simp
  | row h0 =>
   obtain ⟨a,vs,rfl,h1,h2⟩:=rx
   obtain ⟨a',ws,e,h3,h4⟩:=ry
   cases e
   have:=I.tuple_inj h1 h3
   subst this
   exact CH (λx y v b=>ih x y v b) h0 h2 h4
  | @rec_ i j _ h0 =>
   obtain ⟨a,rfl,h1⟩:=rx
   obtain ⟨a',e,h2⟩:=ry
   cases e
   obtain rfl:=MF S.nd h1 h2
   obtain ⟨ks,xs,cz,cU,e1,e2,nd,hl,hc⟩:=CU h0
   rw [e1] at e2
   cases e2
   obtain ⟨vs,_,k2,_⟩:=S.addr e1 h1
   rcases hc with ⟨_,hc⟩|⟨hc,_⟩
   ·exact CI (λx v b e r=>ih x x v b e r r) (CJ nd) hc k2
   ·exact absurd rfl hc
  | apart hx hy dM=>exact absurd (MU I (Kn.of S rx hx) (Kn.of S ry hy)) dM
theorem CW {A:Around}{f:PV->PV->Option Bool}(hf:∀x y v w u u' b,f x y=some b->R K mg ρ H x v->R K mg ρ H y w->RelV v u->RelV w u'->eG X.prog X.w A s u u' b) {cz:Ad}{cU:An}{ws:List V}{kb:List (Key×Value)}(r':Rs K mg ρ H cU ws) (vf:KV (kz cz ws) kb) :
  ∀{ks:Ad} {xs:An} {vs:List V} {ka:List (Key×Value)} {b:Bool},ks.length=vs.length->Rs K mg ρ H xs vs->KV (kz ks vs) ka->dw f cz cU ks xs=some b->cG X.prog X.w A s kb ka b
 | [],xs,[],ka,b,_,_,kv,h=>by
  have:b=true:=by cases xs<;>(cases h;rfl)
  subst this
  cases kv
  exact .nil
 | [],xs,_::_,ka,b,hl,_,_,_=>by simp at hl
 | k::ks,xs,[],ka,b,hl,_,_,_=>by simp at hl
 | k::ks,xs,v::vs,ka,b,hl,r,kv,h=>by
  obtain ⟨u,WJ,rfl,ru,MZ⟩:=u_ kv
  cases xs with
  | nil=>cases r
  | cons x xs =>
   obtain ⟨v',WK,e,r1,r2⟩:=r
   cases e
   simp only [dw] at h
   have hv:=vf.val (Sum.inr k)
   rw [uS] at hv
   cases hl2:(cz.zip cU).lookup k with
   | none =>
    rw [hl2] at h
    cases h
    rw [CK r' hl2] at hv
    cases hu:valueAt kb (Sum.inr k) with
    | none=>exact .miss hu
    | some _=>rw [hu] at hv;exact (show False from hv).elim
   | some y =>
    rw [hl2] at h
    simp only at h
    cases h1:f x y with
    | none=>rw [h1] at h;cases h
    | some a =>
     cases h2:dw f cz cU ks xs with
     | none=>rw [h1,h2] at h;cases h
     | some c =>
      rw [h1,h2] at h
      cases h
      obtain ⟨w,hw,c9⟩:=mE r' hl2
      rw [hw] at hv
      cases hu:valueAt kb (Sum.inr k) with
      | none=>rw [hu] at hv;exact (show False from hv).elim
      | some u' =>
       rw [hu] at hv
       exact .hit hu (hf x y v w u u' a h1 r1 c9 ru hv) (CW hf r' vf (by simpa using hl) r2 MZ h2)
theorem M0 (I:Inv X pins U H s) (S:bf X.K mg ρ H st):∀(n:Nat) (x y:PV) (v w:V) (u u':Value) (b:Bool) (A:Around),eqT st n x y=some b->R X.K mg ρ H x v->R X.K mg ρ H y w->RelV v u->RelV w u'->A.units+n<cLine ->
  eG X.prog X.w A s u u' b/\cq X.prog X.w A s u u' b:=by
 intro n
 induction n with
 | zero=>intro x y v w u u' b A h;cases h
 | succ n ih =>
  intro x y v w u u' b A h rx ry rv rw hu
  cases zjk h with
  | num a c=>cases rx;cases ry;obtain ⟨t,rfl⟩:=rv;obtain ⟨t',rfl⟩:=rw;exact ⟨λE Q q=>SeqAt.EqAt.int_int a t c t' _ _ E Q q,λE Q q=>SeqAt.RcAt.int_int a t c t' _ _ E Q q⟩
  | txt a c=>cases rx;cases ry;obtain ⟨t,rfl⟩:=rv;obtain ⟨t',rfl⟩:=rw;exact ⟨λE Q q=>SeqAt.EqAt.str_str a t c t' _ _ E Q q,λE Q q=>SeqAt.RcAt.str_str a t c t' _ _ E Q q⟩
  | row h0 =>
   obtain ⟨a,vs,rfl,h1,h2⟩:=id rx
   obtain ⟨a',ws,rfl,h3,h4⟩:=id ry
   cases rv
   cases rw
   obtain ⟨its,r1,p1,_⟩:=I.tuple h1
   obtain ⟨aV,r2,p2,_⟩:=I.tuple h3
   obtain ⟨e,he,hb⟩:=CG h0
   have it:=ML (G:=eG X.prog X.w A.in1 s) (λx y v w u u' b e r1 r2 r3 r4=>(ih x y v w u u' b A.in1 e r1 r2 r3 r4 (by rw [qw];omega)).1) h2 h4 r1 r2 he
   have eb:((List.range (min its.toArray.size aV.toArray.size)).all e&&its.toArray.size==aV.toArray.size)=b:=by
    rw [h2.len,h4.len,r1.length,r2.length] at hb
    simpa using hb
   have rc:cq X.prog X.w A s (.ref a) (.ref a') b:=by
    rw [<-eb]
    exact cq.tuples (show s.heap.IsTuple a its.toArray from p1) (show s.heap.IsTuple a' aV.toArray from p2) (by omega) it
   refine ⟨?_,rc⟩
   by_cases eF:a=a'
   ·subst eF
    rw [CV I S (n+1) _ _ _ _ h rx ry]
    exact λE Q q=>SeqAt.EqAt.same _ _ _ E Q q
   ·exact .of_refs eF rc
  | @rec_ i j _ h0 =>
   obtain ⟨a,rfl,h1⟩:=id rx
   obtain ⟨a',rfl,h2⟩:=id ry
   cases rv
   cases rw
   obtain ⟨ks,xs,cz,cU,e1,e2,nd,hl,hc⟩:=CU h0
   obtain ⟨vs,k1,k2,k3⟩:=S.addr e1 h1
   obtain ⟨ws,k4,k5,k6⟩:=S.addr e2 h2
   obtain ⟨_,s1,ka,CY,da⟩:=jw I.hok (.inl k1)
   obtain ⟨_,s2,kb,CZ,db⟩:=jw I.hok (.inl k4)
   have la:ka.length=ks.length:=by rw [<-CY.length];simp [kz,k3]
   have lb:kb.length=cz.length:=by rw [<-CZ.length];simp [kz,k6]
   have both:cq X.prog X.w A s (.ref a) (.ref a') b:=by
    rcases hc with ⟨qP,hc⟩|⟨qP,rfl⟩
    ·have hits:ka.length=kb.length->cG X.prog X.w A.in1 s kb ka b:=λ_=>CW (λx y v w u u' b e r1 r2 r3 r4=>(ih x y v w u u' b A.in1 e r1 r2 r3 r4 (by rw [qw];omega)).1) k5 CZ k3 k2 CY hc
     have nL:(ka.length==kb.length&&b)=b:=by rw [la,lb,qP];simp
     rw [<-nL]
     exact cq.recs s1 s2 da db (by omega) hits
    ·have nL:(ka.length==kb.length&&true)=false:=by rw [la,lb];simpa using qP
     rw [<-nL]
     exact cq.recs s1 s2 da db (by omega) λz=>absurd (by rw [<-la,<-lb];exact z) qP
   refine ⟨?_,both⟩
   by_cases eF:a=a'
   ·subst eF
    rw [CV I S (n+1) _ _ _ _ h rx ry]
    exact λE Q q=>SeqAt.EqAt.same _ _ _ E Q q
   ·exact .of_refs eF both
  | apart hx hy dM=>exact MV I (Kn.of S rx hx) (Kn.of S ry hy) rv rw dM (by omega)
def oK:Am:=λx y st=>match eqT st 150 x y with
 | some b=>.ok (.bl b) st
 | none=>.stuck
def M5 (K:Frag) (mg:Ab):R2:=λv w H Q=>∃ρ st x y b,bf K mg ρ H st/\eqT st 150 x y=some b/\R K mg ρ H x v/\R K mg ρ H y w/\Q (.bl b) H
theorem M6 (hu:X.A.units+200<cLine):ba X (compareOp .Eq) (M5 X.K X.mg):=by
 intro pins s U H x y v u Q I rx ry h
 obtain ⟨ρ,st,a,b,k,S,e,ra,rb,q⟩:=h
 exact (M0 I S 150 a b x y v u k X.A e ra rb rx ry (by omega)).2 _ _ ⟨.bl k,H,I,rfl,q⟩
def zjo (hu:X.A.units+200<cLine):bD X .Eq oK:=⟨_,M6 hu,fun ρ H st x y v w Q E s rx ry h=>by
 unfold oK at h
 cases e:eqT st 150 x y with
 | none=>rw [e] at h;exact h.elim
 | some b=>rw [e] at h;exact ⟨ρ,st,x,y,b,s,e,rx,ry,h.now s _ rfl⟩⟩
end
section
variable {X:Cx}{Er:XK}{K:Frag}{mg:Ab}{ρ:Ae}{pins:Ac}{U:L2.St}{H:Hp}{s:Shared}{st:ao}{o:Expr}{fo:Ai}{apos a0 p0 oM:Pos}
open Classical in
noncomputable def V1 (K:Frag) (mg:Ab) (ρ:Ae) (H:Hp) (st:ao) (ys:An) (x:PV) (u:Value):Bool:=decide (∃y v,y∈ys/\R K mg ρ H y v/\RelV v u/\eqT st 150 y x=some true)
open Classical in
theorem C0:∀{ks:Ad}{vs:List V}{kv:List (Key×Value)},ks.length=vs.length->KV (kz ks vs) kv->Vals vs (kv.map (·.2))
 | [],[],_,_,h=>by cases h;exact .nil
 | [],_::_,_,hl,_=>by simp at hl
 | _::_,[],_,hl,_=>by simp at hl
 | k::ks,v::vs,kv,hl,h=>by
  obtain ⟨u,r,rfl,h1,h2⟩:=u_ h
  exact .cons h1 (C0 (by simpa using hl) h2)
def M7 (to:TE):TE:=λU H Q=>to U H λx H1=>∃a ks vs,x=.ref a/\H1 a=some (.dK (kz ks vs))/\ks.length=vs.length/\∀l,H1 l=none->Q (.ref l) (upd H1 l (.lst vs))
def M8 {to:TE} (hc:X.calm=true) (vg:Gl X "list") (vh:X.mg "list" = none) (ho:PE X o to) (bI:attributeBase o "values" X.env (eval o X.env)=eval o X.env) (cP:(apos.endLine==a0.line)=true) :
  PE X (.Call (.Name "list" p0) [.Call (.Attribute o "values" apos) [] [] a0] [] oM) (M7 to):=by
 intro pins s U H Q I h
 refine PyProof.Rows.Call_ (iu I vg vh B5 (PyProof.Rows.callWith_type1 ?_ rfl rfl))
 show wpAny _ _ (spliced ((false,eval (.Call (.Attribute o "values" apos) [] [] a0) X.env)::backTo oM (starEach [] X.env))) _ _ s
 refine Calls.spliced_cons ?_
 refine wpAny_Call_method0_late bI cP (aU (ho pins s U H _ I h) λv s1 ⟨x,H1,I1,r1,q1⟩=>?_)
 obtain ⟨a,ks,vs,rfl,e,hl,q⟩:=q1
 obtain rfl:v=Value.ref a:=r1
 obtain ⟨hz,lo,kv,gL,hd⟩:=jw I1.hok (.inl e)
 obtain ⟨ep,kY⟩:=hd.dictAt
 refine ⟨"dict", "dict.values", PySem.F.plainAttrs_dict,PySem.F.slot_dict_values,PySem.F.type_dict_values,?_,?_,Calls.callWith_builtin rfl (PySem.evalArgs_none (call_meetsIn PySem.F.slot_dict_values hd.typeIs PySem.F.entry_dict_values (PySem.F.args_dict_values_1 _) (meets_dict_values (aY X.prog X.w) a lo) ⟨⟨kv,hd⟩,?_⟩))⟩
 ·exact (sR I1 (x:=.ref a) rfl (.inr (.inr (.inl ⟨rfl,.inl ⟨_,e⟩⟩)))).1
 ·exact (sR I1 (x:=.ref a) rfl (.inr (.inr (.inl ⟨rfl,.inl ⟨_,e⟩⟩)))).2
 refine Calls.spliced_nil ?_
 have hle:s1.heap.objs.size<=(s1.heap.push { cls:=.type "dict_values", data:=.fields #[.ref a] }).objs.size:=by rw [Heap.size_push];exact Nat.le_succ _
 refine kdl_call (s:={ s1 with heap:=s1.heap.push { cls:=.type "dict_values", data:=.fields #[.ref a] } }) (kdl_values (knd:=aY X.prog X.w) (kvs:=kv) (ep:=ep)) (I.ok.hd hc) ⟨⟨_,yP _ rfl,rfl,rfl⟩,kY.push _⟩ (by rw [<-gL.length];exact hz) λh' tk bU c' hk hS fq=>?_
 have ev:bU.toList=kv.map (·.2):=kdl_vals_eq _ (by rw [Array.length_toList];exact fq.1) λj u e=>fq.2 j u (by rw [<-Array.getElem?_toList];exact e)
 have hv:Vals vs bU.toList:=by rw [ev];exact C0 hl gL
 have lv:vs.length<=sizeLine:=by
  have:(kz ks vs).length=vs.length:=by simp [kz,hl]
  rw [<-this];exact hz
 exact ⟨.ref _,_,I1.laid (t':=tk) (λb ob eb=>hk b ob (zZ _ eb)) hle (show aZ X.prog X.w _ h' _ (.lst vs) from ⟨lv,bU.toList,c',hv,by simpa using hS⟩),rfl,q _ (I1.hok.fresh hle)⟩
def C1:PV->Mo PV
 | .ref n,st=>yW st n λ_ xs=>.ok (.ref st.length) (st++[.lst xs])
 | _,_=>.stuck
def M9 (hc:X.calm=true) (vh:X.mg "list" = none) (ho:ME X Er o fo) (vg:Gl X "list" := by rfl) (bI:attributeBase o "values" X.env (eval o X.env)=eval o X.env:=by rfl) (cP:(apos.endLine==a0.line)=true:=by rfl) :
  ME X Er (.Call (.Name "list" p0) [.Call (.Attribute o "values" apos) [] [] a0] [] oM) (zX C1 fo) :=
 PE.weak (M8 hc vg vh ho bI cP) λU H Q ⟨env,st,ρ,re,rs,h⟩=>⟨env,st,ρ,re,rs,h.then λag H1 x ae e1 s1 h1 v rv=>by
  cases x with
  | ref n =>
   obtain ⟨ks,xs,e,h1⟩:=qu h1
   obtain ⟨a,vs,rfl,_,k1,k2,k3⟩:=R.refD s1 rv e
   exact ⟨a,ks,vs,rfl,k1,k3,λl hl=>Out.newList (xs:=xs) h1 s1 k2 hl⟩
  | _=>exact h1.elim⟩
end
end Mi
namespace L2
open PySem PySem.Spec PyProof.Rows
def M_ (iy:Nat) (wi:TI) (te:TE):TS:=λD U H=>wi U H λJ H1=>kq J te U (λv H2=>D.nx (U.set iy (some v)) H2) H1
theorem Na {X:Cx} {elt iter:Expr} {x y:Str} {px pos pos' fQ:Pos} {scope:Scope} {wi:TI} {te:TE} {M:Ad} {iy:Nat} (hc:X.calm=true) (S:cZ X.env.scope scope x) (eN:Hid scope M X.N) (cm:((".0" : Str)::x::M).Nodup)
  (hi:PI X (.Name x px) iter wi) (he:∀cl C af ah fp,PE (iD X M scope cl x C af ah fp (λ_ _=>False)) elt te) (oN:X.N.Nodup) (oO:X.N[iy]?=some y) (hy:Loc X.env.scope y) (oP:X.fn y=true\/X.env.scope.names.lookup y=some .local)
  (gm:swapsWith (.ListComp elt [⟨.Name x px,iter,[],0⟩] scope pos) (some (.Name y pos')) fQ.line X.env=pure true) (hs:∀v,foldedSetIterable iter X.env v=pure v:=by intro _;rfl):PS X (.Assign [.Name y pos'] (.ListComp elt [⟨.Name x px,iter,[],0⟩] scope pos) fQ) (M_ iy wi te):=by
 intro pins s U H Dn I h
 have hN:(x::M).Nodup:=(jQ.mp cm).2
 have tj:(".0" : Str)∉M:=λz=>(jQ.mp cm).1 (jr _ z)
 obtain ⟨cl,ky,cQ,iF⟩:=A0 X.env scope λp hp hf=>I.ok.has p.1 (.inl (S.free p hp hf))
 have kA:X.env.scope.kind=.function:=I.ok.kind
 rw [exec_Assign_Name_used _ _ _ _ gm]
 refine zp (wpAny_standAt ?_)
 rw [arm_evalThenUse_ListComp]
 refine zp (zp (wpAny_comprehension_free (Q:=λ_ s'=>wpAny (model X.prog X.w) X.A (pure ():Sem Unit) (λ_ s'=>wpAny (model X.prog X.w) X.A (pure .next:Sem Flow) (SP X pins Dn) X.xe s') X.xe s') (use:=some (assign (.Name y pos') X.env)) rfl hs ky S.kind (λy hy hl=>(S.names y hy hl).1) ?_))
 refine aU (hi pins s U H _ I h) λv s1 h1=>aU h1 λpS af h2=>?_
 obtain ⟨it,fp,tn,J,H2,e,I2,T,av,f2,W,⟨m0,w0⟩,turn⟩:=h2
 subst e
 refine wO (wpAny_newFunctionEnv S.ncell (by intro y hy;simp at hy) (λaw aA az=>?_) S.kind)
 dsimp only at aA az ⊢
 generalize hH2:af.heap.push { cls:=.type "list", dict:=none,data:=.seq ([]:Af).toArray }=G2 at aA az ⊢
 have hC:G2.objs.size=af.heap.objs.size+1:=by rw [<-hH2,Heap.size_push]
 have gH:af.heap.objs.size≠G2.objs.size:=by rw [hC];exact yz (jS _)
 have A_:af.heap.objs.size<=G2.objs.size:=by rw [hC];exact Nat.le_succ _
 have old:∀b o,af.heap.get? b=some o->aw.get? b=some o:=λb o e=>by
  have hb:b≠G2.objs.size:=by rw [hC];exact yz (Nat.lt_succ_of_lt (yf e))
  exact az.extBut b o hb (zZ _ (hH2▸zZ _ e))
 have dB:aw.get? af.heap.objs.size=some { cls:=.type "list", data:=.seq (#[]:Array Value) 0 }:=az.extBut _ _ gH (zZ _ (hH2▸yP _ rfl))
 generalize hD:af.heap.objs.size=D at *
 generalize hCC:G2.objs.size=C at *
 have eD:∀{b:Nat} {o:Obj},af.heap.get? b=some o->b<D:=λe=>by rw [<-hD];exact yf e
 have nofr:∀b,D<=b->b∉cN X.stack:=λb hb z=>by
  rcases yE.mp (I2.stkSub b z) with q|q
  ·exact AW I2.lt hD hb q
  ·exact I2.nofs (by rw [hD];exact hb) q
 let E':Aa:=notedBy (model X.prog X.w) X.A (compEnvC scope cl C X.env) λe s'=>compPost (model X.prog X.w) X.A X.xe (some (assign (.Name y pos') X.env)) (λ_ s'=>wpAny (model X.prog X.w) X.A (pure ():Sem Unit) (λ_ s'=>wpAny (model X.prog X.w) X.A (pure .next:Sem Flow) (SP X pins Dn) X.xe s') X.xe s') (.ref D) C (.error e) s'
 let Y:Cx:=iD X M scope cl x C af H2 fp E'
 have du:∀b∈fp,cO X pins H2 b:=f2
 have kB:Y.Ok:=by
  refine ⟨I2.ok.mod,S.kind,I2.ok.glob,I2.ok.blt,(by show af.heap.objs.size<=C;omega),λy z c h1 h2=>?_,λy hy=>?_,λy c hf=>?_,I2.ok.hd,I2.ok.frames,.inl rfl,λb hb=>?_,I2.bs,y6 I2.ok.bsz I2.sz,λb o hb hx=>?_,λb hb hx=>?_,I2.stack,I2.stkFree⟩
  ·exact I2.ok.inj y z c (cQ y c h1) (cQ z c h2)
  ·exact iF y (sX S kA hy)
  ·cases hf
  ·refine ⟨λz=>?_,λy c hy=>(du b hb).2.2.2.2.1 y c (cQ y c hy)⟩
   obtain ⟨o,ho,_⟩:=T.obj 0 _ av b hb
   exact ko (eD ho) hC z
  ·rcases (du b hx).2.2.2.1 with z|z
   ·exact I2.ok.noex b o hb z
   ·exact AX (yf hb) I2.ok.bsz z
  ·rcases yE.mp (I2.stkSub b hx) with q|q
   ·exact (du b hb).2.1 q
   ·exact (du b hb).2.2.1 q
 have fE:∀{s':Shared} {H':Hp} {o:Obj},s'.heap.get? D=some o->H' D=none->(∀v,o.data ≠ .cell v)->∀p∈[(D,o)],s'.heap.get? p.1=some p.2/\H' p.1=none/\p.1≠Y.env.locals/\p.1∉Y.fs/\∀v,p.2.data ≠ .cell v:=λ{s' H' o} e1 e2 e3 p hp=>by
  have ep:p=(D,o):=by simpa using hp
  subst ep
  exact ⟨e1,e2,gH,nofr D (yd _),e3⟩
 have I0:Inv Y [(D,{ cls:=.type "list", data:=.seq (#[]:Array Value) 0 })] (none::U) H2 { af with heap:=aw,toks:=af.toks+([]:List (Str×Value)).length }:=by
  have fresh:∀b,D<=b->H2 b=none:=λb hb=>I2.hok.fresh (by rw [hD];exact hb)
  refine ⟨kB,rfl,I2.bare,Un.kept old,⟨_,aA,λi y v e1 e2 e3=>?_⟩,λy c hy=>?_,fresh C (by omega),λy c hy=>I2.freeC y c (cQ y c hy),λp hp=>fE dB (fresh D (yd _)) (λv z=>by cases z) p hp,I2.hok.kept old,?_⟩
  ·cases i with
   | zero=>simp at e2
   | succ i =>
    have nM:M[i]?=some y:=by simpa [Y,iD] using e1
    have tm:X.N[i]?=some y:=by
     rcases eN.get nM with q|q
     ·exact q
     ·refine absurd ?_ q
      rcases e3 with e3|e3|e3<;>(obtain ⟨k0,hm,_⟩:=iE e3;exact wm.mpr ⟨_,hm,rfl⟩)
    have tq:U[i]?=some (some v):=by simpa using e2
    have iG:¬(y=x\/y = ".0"):=λz=>by
     have hm:=m7 nM
     rcases z with z|z
     ·rw [z] at hm
      exact (jQ.mp hN).1 hm
     ·rw [z] at hm
      exact tj hm
    have cK:(y,NameKind.free)∈scope.names:=by
     rcases e3 with e3|e3|e3
     ·exact absurd (A3 S e3) iG
     ·exact sX S kA (.inl e3)
     ·exact sX S kA (.inr e3)
    have nO:X.env.scope.names.lookup y=some .cell:=S.free _ cK rfl
    obtain ⟨m,hn,hl⟩:=I2.loc
    obtain ⟨u,r,l⟩:=hl i y v tm tq (.inr (.inl nO))
    refine ⟨u,r,?_⟩
    rcases l with ⟨hk,_⟩|⟨_,c,l9,dQ⟩
    ·have:X.env.kindOf y=some .cell:=nO
     rw [this] at hk;cases hk
    ·obtain ⟨c',cI⟩:=iF y cK
     have:=cQ y c' cI
     rw [l9] at this
     cases this
     refine .inr ⟨?_,c,cI,?_⟩
     ·rcases e3 with e3|e3|e3
      ·exact absurd (A3 S e3) iG
      ·exact .inl e3
      ·exact .inr e3
     ·obtain ⟨o,ho,hd⟩:=dQ
      exact ⟨o,old c o ho,hd⟩
  ·obtain ⟨v,o,ho,hd⟩:=I2.cell y c (cQ y c hy)
   exact ⟨v,o,old c o ho,hd⟩
  ·show (none::U).length=(x::M).length
   simp [I2.len,eN.1]
 have kC:∀{pl:Ac} {H':Hp},(∀p∈pl,p.1=D)->(∀b∈fp,H' b=none)->∀b∈fp,cO Y pl H' b:=λ{pl H'} br hn b hb=>by
  obtain ⟨o,ho,_⟩:=T.obj 0 _ av b hb
  refine ⟨hn b hb,λz=>?_,?_,.inl hb,(kB.exf b hb).2,λp hp z=>?_⟩
  ·exact ko (eD ho) hC z
  ·exact kB.exfs b hb
  ·have tu:p∈pl:=by simpa [Y,iD] using hp
   exact AY (eD ho) (br p tu) z
 have loop:codeAny (model X.prog X.w) X.A (.compLoop (.ListComp elt [⟨.Name x px,iter,[],0⟩] scope pos) 0 (.ref it) (.ref D) (compEnvC scope cl C X.env))
   (compPost (model X.prog X.w) X.A X.xe (some (assign (.Name y pos') X.env)) (λ_ s'=>wpAny (model X.prog X.w) X.A (pure ():Sem Unit) (λ_ s'=>wpAny (model X.prog X.w) X.A (pure .next:Sem Flow) (SP X pins Dn) X.xe s') X.xe s') (.ref D) C) { af with heap:=aw,toks:=af.toks+([]:List (Str×Value)).length }:=by
  refine IM (λn s'=>∃i ys H' its k,Inv Y [(D,{ cls:=.type "list", data:=.seq (its:Af).toArray k })] (none::U) H' s'/\Vals ys its/\tn i s'.heap/\(∀b∈fp,H' b=none)/\W i n ys H') ?_ m0
   ⟨0,[],H2,[],0,I0,.nil,T.keep 0 _ _ av (λb hb o e=>old b o e),λb hb=>(du b hb).1,w0⟩
  rintro n s3 ⟨i,ys,H3,its,k,I3,rv,a_,iw,w3⟩
  have gg:∀{o:Obj},∀p∈[(D,o)],p.1=D:=λ{o} p hp=>by
   have ep:p=(D,o):=by simpa using hp
   rw [ep]
  obtain ⟨gD,nD,_,_,_⟩:=I3.pin (D,_) (y0 _ jk)
  rcases turn i n ys H3 w3 with ⟨stop,hz,q⟩|⟨go,hz,step⟩
  ·refine aU (T.done Y rfl rfl rfl hc i _ s3 _ H3 E' I3 (kC gg iw) a_ stop) λr s4 ⟨hr,I4⟩=>?_
   subst hr
   obtain ⟨tD,kD,_,_,_⟩:=I4.pin (D,_) (y0 _ jk)
   obtain ⟨m4,tE,_⟩:=id I4.loc
   have fin:∀h',Heap.SameBut C s4.heap h'->Inv X pins U (upd H3 D (.lst ys)) { s4 with heap:=h' }:=λh' dv=>by
    have gF:∀{b:Addr} {u:HO},H3 b=some u->b≠C:=λe z=>by
     have:H3 C=none:=I4.free
     rw [z,this] at e;cases e
    refine I2.call' (s':={ s4 with heap:=h' }) (ch:=fp) (H':=upd H3 D (.lst ys)) I4.os ?_ ?_ I4.bare λb hb=>⟨(du b hb).2.2.2.1,(du b hb).2.1,(du b hb).2.2.2.2.1,(du b hb).2.2.2.2.2⟩
    ·have B:=I4.base
     have kE:∀{b:Nat} {o:Obj},af.heap.get? b=some o->b≠C:=λe z=>ko (eD e) hC z
     have kF:∀{b:Addr} {u:HO},H3 b=some u->b≠D:=λe z=>by rw [z,kD] at e;cases e
     refine ⟨λb o e nn hb hx=>(dv.2 b (kE e)).trans (B.keep b o e nn hb hx),λb o e nn hb hx=>?_,λb o e nn hx=>?_,λb o e hx=>?_,λb xs e=>?_,λb o u e=>?_,λb ps e=>?_⟩
     ·obtain ⟨sl,z⟩:=B.slot b o e nn hb hx
      exact ⟨sl,(dv.2 b (kE e)).trans z⟩
     ·have tF:b≠D:=yz (eD e)
      rw [zW tF]
      exact B.free b o e nn hx
     ·obtain ⟨o',z⟩:=B.there b o e hx
      exact ⟨o',(dv.2 b (kE e)).trans z⟩
     ·have z:=B.tups b xs e
      rw [zW (kF z)];exact z
     ·have z:=B.frzs b o u e
      rw [zW (kF z)];exact z
     ·obtain ⟨more,z⟩:=B.tbls b ps e
      exact ⟨more,by rw [zW (kF z)];exact z⟩
    ·intro a o e
     by_cases ha:a=D
     ·subst ha
      rw [yx] at e
      cases e
      exact ⟨hz,its,k,rv,(dv.2 _ gH).trans tD⟩
     ·rw [zW ha] at e
      have eX:∀b u,H3 b=some u->(upd H3 D (.lst ys)) b=some u:=λb u z=>by
       have hb:b≠D:=λw=>by rw [w,kD] at z;cases z
       rw [zW hb];exact z
      refine (I4.hok a o e).stay (λb u hb z=>(dv.2 b ?_).trans z) (λb z=>eX b _ z) λb xs z=>eX b _ z
      rcases hb with hb|hb
      ·rw [hb];exact gF e
      ·exact gF hb
   have Nb:C≠D:=λz=>gH z.symm
   have IX:=fin s4.heap ⟨rfl,λ_ _=>rfl⟩
   obtain ⟨oC,eC,pC,gC,rC⟩:=id tE
   have C3:upd H3 D (.lst ys) C=none:=by rw [zW Nb];exact I4.free
   have vi:∀b o,af.heap.get? b=some o->b≠C:=λb o e z=>ko (eD e) hC z
   have mm:C≠X.env.locals:=λz=>by
    obtain ⟨m2,fB,_⟩:=id I2.loc
    obtain ⟨o2,_,_,g2,_⟩:=fB
    exact vi _ _ g2 z.symm
   have Nc:C∉X.fs:=I2.nofs (by rw [hD];omega)
   have IP:Inv X (pins++[(C,oC)]) U (upd H3 D (.lst ys)) s4:=IX.pins_of λp hp=>by
    rcases m8.mp hp with hp|hp
    ·exact IX.pin p (y0 _ hp)
    ·have ep:p=(C,oC):=by simpa using hp
     subst ep
     exact ⟨gC,C3,mm,Nc,λv z=>by rw [rC.1] at z;cases z⟩
   show wpAny _ _ (assign (.Name y pos') X.env (.ref D)) _ _ s4
   have bw:wpAny (model X.prog X.w) X.A (assign (.Name y pos') X.env (.ref D)) (λ_ s5=>Inv X (pins++[(C,oC)]) (U.set iy (some (.ref D))) (upd H3 D (.lst ys)) s5) X.xe s4:=wpAny_assign_Name (kg IP oN oO hy (v:=.ref D) rfl (λs5 I5=>I5) oP)
   refine aU bw λ_ s5 I5=>?_
   have g5:=(I5.pin (C,oC) (y0 _ (y0 _ jk))).1
   refine ⟨m4,⟨oC,eC,pC,g5,rC⟩,λWL dv=>zK (zK ⟨_,_,?_,q D kD⟩)⟩
   exact (I5.pins_of (pins':=pins) λp hp=>I5.pin p (y0 _ (lV _ hp))).turned (it:=C) (t':=s5.toks) (λb o hb e=>(dv.2 b hb).trans e) C3 mm
    (.inr (by have:=I2.sz;rw [hD] at this;omega)) (λa c ha z=>by
     obtain ⟨v',o',ho',_⟩:=I2.cell a c ha
     exact vi _ _ ho' z) (λp hp=>vi _ _ (I2.pin p hp).1)
  ·refine aU (T.item Y rfl rfl rfl hc i _ s3 _ H3 E' I3 (kC gg iw) a_ go) λr s4 ⟨u,hr,h4⟩=>?_
   subst hr
   refine aU h4 λ_ s5 ⟨z,H5,I5,r5,y5,dq,nB⟩=>?_
   have nC:=I5.pinned (kC gg nB) (T.obj _ _ dq)
   have gh:PG Y (.Name x px) (wb 0):=wB (X:=Y) hN rfl (.inl (jO S.hx)) (.inr (jO S.hx))
   have tG:PE Y elt te:=PE.nox (X:=Y) (he cl C af H2 fp)
   refine aU (gh _ s5 (none::U) H5 z u (λai H'=>ai=some z::U/\H'=H5) nC r5 ⟨rfl,rfl⟩) λ_ s6 ⟨aG,H6,I6,e1,e2⟩=>?_
   subst e1 e2
   refine aU (tG _ s6 _ _ _ I6 (step z _ y5)) λuy s7 ⟨y,H7,I7,ry,m',hm,w7⟩=>?_
   obtain ⟨nP,kG,_,_,_⟩:=I7.pin (D,_) (y0 _ (lV _ jk))
   refine wpAny_list_append_plain ⟨k,nP⟩ (λh' br dv=>?_) (by rw [yV,<-rv.length];exact hz)
   obtain ⟨k',nQ⟩:=br
   have I8:Inv Y [] (some z::U) H7 { s7 with heap:=h' }:=(I7.pins_of (pins':=[]) (λp hp=>nomatch hp)).turned (it:=D) (t':=s7.toks) (λb o hb e=>(dv.2 b hb).trans e) kG gH
    (.inr (by show af.heap.objs.size<=D;omega)) (λa c hy nR=>by
     obtain ⟨v',o',ho',_⟩:=I2.cell a c (cQ a c hy)
     exact yz (eD ho') nR) (λp hp=>by simp [Y,iD] at hp)
   have I9:Inv Y [] (none::U) H7 { s7 with heap:=h' }:=I8.weak (by simp) λj v e=>by
    cases j with
    | zero=>simp at e
    | succ j=>simpa using e
   have dS:∀b∈fp,∃o,s5.heap.get? b=some o/\s7.heap.get? b=some o/\H7 b=none:=λb hb=>by
    obtain ⟨o,e,_⟩:=T.obj _ _ dq b hb
    have q:=I7.pin (b,o) (y0 _ (y0 _ (nA hb e)))
    exact ⟨o,e,q.1,q.2.1⟩
   have tH:∀b∈fp,b≠D:=λb hb=>by
    obtain ⟨o,ho,_⟩:=T.obj 0 _ av b hb
    exact yz (eD ho)
   have eT:its.toArray.push uy=(its++[uy]).toArray:=by simp
   rw [eT] at nQ
   refine ⟨m',hm,i+1,ys++[y],H7,its++[uy],k',I9.pins_of (fE nQ kG λv e=>by cases e),rv.append (.cons ry .nil),T.keep (i+1) _ _ dq λb hb o e=>?_,λb hb=>?_,w7⟩
   ·obtain ⟨o',e1,e2,_⟩:=dS b hb
    rw [e] at e1
    cases e1
    exact (dv.2 b (tH b hb)).trans e2
   ·obtain ⟨_,_,_,q⟩:=dS b hb
    exact q
 exact codeAny_compStart_list loop (T.self X.A 0 _ _ _ (T.keep 0 _ _ av (λb hb o e=>old b o e)) loop)
end L2
namespace Mi
open PySem L2 PySem.W PySem.Spec
section
variable {X:Cx}{Er:XK}{pos:Pos}
def C4 (X:Cx) (Er:XK) (src:zc->Mo Sq):TI:=λU H R=>∃env st ρ,bj X.K X.mg ρ H env U/\bf X.K X.mg ρ H st/\Out X.K X.mg ρ H (src env st) (λaj H' q bC=>∀J,Walk X.K X.mg J aj H' q->R J H') Er
def Nd {src:zc->Mo Sq}{fe:Ai}(U:L2.St) (H:Hp) (Q:VK) (hh:tM X.K X.mg Er (y8 src fe) U H Q):A5 (C4 X Er src) (tM X.K X.mg XN fe) U H Q:=by
 obtain ⟨env,st,ρ,re,rs,h⟩:=hh
 refine ⟨env,st,ρ,re,rs,h.then λaq H0 q dj e0 s0 h0 J wk=>?_⟩
 cases q with
 | im xs =>
  obtain ⟨hl,h0⟩:=Out.ifp h0
  obtain ⟨w1,w2,w3⟩:=wk
  refine ⟨λi m ys H=>m=xs.length-i/\i<=xs.length/\ys.length=i/\∃ps st ρ,Rs X.K X.mg ρ H ps ys/\bf X.K X.mg ρ H st/\Ext aq H0 ρ H/\Out X.K X.mg ρ H (cF fe env (xs.drop i) ps st) (gV X.K X.mg Q) Er,⟨xs.length,by simp,jc _,rfl,[],dj,aq,rfl,s0,Ext.refl,h0⟩,?_⟩
  rintro i m ys H ⟨rfl,hi,hy,ps,st,ρ,cy,rs,ex,h⟩
  by_cases bu:i<xs.length
  ·refine .inr ⟨w1 i ρ H ex bu,yZ (by omega),λv H' y=>?_⟩
   obtain ⟨x,hx,bN,s2,rx⟩:=w3 i ρ H st v H' ex rs bu y
   have hd:xs.drop i=x::xs.drop (i+1):=by
    rw [jP bu]
    have:=(yt.mp hx).2
    rw [this]
   rw [hd] at h
   simp only [cF] at h
   refine ⟨some x::env,st,ρ,(re.ext (e0.trans (ex.trans bN))).cons rx,s2,ju (Out.ext h bN) λal H3 y a_ e3 s3 h3 v ry=>⟨xs.length-(i+1),by omega,rfl,bu,by simp [hy],ps++[y],a_,al,Rs.snoc ry (Rs.ext (bN.trans e3) ps cy),s3,(ex.trans bN).trans e3,h3⟩⟩
  ·have e:i=xs.length:=by omega
   subst e
   rw [List.drop_length] at h
   exact .inl ⟨w2 _ ρ H ex (yd _),yZ (by omega),λl hl=>Out.newList h rs cy hl⟩
 | rf n =>
  obtain ⟨a,ha,rfl⟩:=wk
  refine ⟨λi m ys H=>m+i=lim+1/\ys.length=i/\∃ps st ρ,Rs X.K X.mg ρ H ps ys/\bf X.K X.mg ρ H st/\Ext aq H0 ρ H/\ρ[n]?=some a/\Out X.K X.mg ρ H (de fe env n m i ps st) (gV X.K X.mg Q) Er,⟨lim+1,rfl,rfl,[],dj,aq,rfl,s0,Ext.refl,ha,h0⟩,?_⟩
  rintro i m ys H ⟨hm,hy,ps,st,ρ,cy,rs,ex,ha,h⟩
  cases m with
  | zero=>exact h.elim
  | succ m =>
   obtain ⟨xs,hn,h⟩:=jy h
   obtain ⟨vs,hH,hR⟩:=rs.addr hn ha
   cases hx:xs[i]? with
   | none =>
    simp only [hx] at h
    have:vs.length<=i:=by rw [<-hR.len];exact lY.mp hx
    exact .inl ⟨⟨vs,bo.of hH,this⟩,yZ (by omega),λl hl=>Out.newList h rs cy hl⟩
   | some x =>
    simp only [hx] at h
    obtain ⟨v,hv,rv⟩:=hR.get hx
    refine .inr ⟨⟨vs,v,bo.of hH,hv⟩,yZ (by omega),λv' H' y=>?_⟩
    obtain ⟨e1,y⟩:=y
    subst e1
    have e2:=y vs (bo.of hH)
    rw [hv] at e2
    cases e2
    exact ⟨some x::env,st,ρ,(re.ext (e0.trans ex)).cons rv,rs,ju h λal H3 y a_ e3 s3 h3 v ry=>⟨m,jS m,by omega,by simp [hy],ps++[y],a_,al,Rs.snoc ry (Rs.ext e3 ps cy),s3,ex.trans e3,e3.get ha,h3⟩⟩
def Nf (i:Nat) {elt iter:Expr} {x y:Str} {px pos' fQ:Pos} {scope:Scope} {src:zc->Mo Sq} {fe:Ai} {M:Ad} (hc:X.calm=true) (S:cZ X.env.scope scope x) (eN:Hid scope M X.N) (cm:((".0" : Str)::x::M).Nodup)
  (hi:MI X Er (.Name x px) iter src) (he:∀cl C af ah fp,ME (iD X M scope cl x C af ah fp (λ_ _=>False)) XN elt fe) (oN:X.N.Nodup) (oO:X.N[i]?=some y) (hy:Loc X.env.scope y) (oP:X.fn y=true\/X.env.scope.names.lookup y=some .local)
  (gm:swapsWith (.ListComp elt [⟨.Name x px,iter,[],0⟩] scope pos) (some (.Name y pos')) fQ.line X.env=pure true) (hs:∀v,foldedSetIterable iter X.env v=pure v:=by intro _;rfl) :
  MS X Er (.Assign [.Name y pos'] (.ListComp elt [⟨.Name x px,iter,[],0⟩] scope pos) fQ) (zO i (y8 src fe)) :=
 PS.weak (Na (te:=tM X.K X.mg XN fe) hc S eN cm hi (λcl C af ah fp=>he cl C af ah fp) oN oO hy oP gm hs) λD U H ⟨env,st,ρ,re,rs,h⟩=>by
  refine Nd (X:=X) (Er:=Er) (src:=src) (fe:=fe) U H (λv H2=>D.nx (U.set i (some v)) H2) ⟨env,st,ρ,re,rs,h.then λag H1 x ae e1 s1 h1 v rv=>?_⟩
  exact h1.now s1 (U.set i (some v)) ((re.ext e1).set i rv)
def C5 (i:Nat) {elt iter:Expr} {x y:Str} {px pos' fQ:Pos} {scope:Scope} {src:zc->Mo Sq} {fe:Ai} {N:Ad} (hc:X.calm=true) (S:cZ X.env.scope scope x) (eN:X.N=N) (cm:((".0" : Str)::x::N).Nodup)
  (hi:MI X Er (.Name x px) iter src) (he:∀cl C af ah fp,ME (A2 X scope cl x C af ah fp (λ_ _=>False)) XN elt fe) (oN:X.N.Nodup) (oO:X.N[i]?=some y) (hy:Loc X.env.scope y) (oP:X.fn y=true\/X.env.scope.names.lookup y=some .local)
  (gm:swapsWith (.ListComp elt [⟨.Name x px,iter,[],0⟩] scope pos) (some (.Name y pos')) fQ.line X.env=pure true) (hs:∀v,foldedSetIterable iter X.env v=pure v:=by intro _;rfl) :
  MS X Er (.Assign [.Name y pos'] (.ListComp elt [⟨.Name x px,iter,[],0⟩] scope pos) fQ) (zO i (y8 src fe)) :=
 Nf i hc S Hid.refl (eN▸cm) hi he oN oO hy oP gm hs
end
end Mi
namespace L2
open PySem PySem.Spec PyProof.Rows PySem.W
section
variable {X:Cx}{pins:Ac}{U:St}{H:Hp}{s:Shared}{a:Addr}{kvs:List (Key×V)}{o:Obj}
end
end L2
namespace Mi
open PySem L2 PySem.W PySem.Spec
section
variable {K:Frag}{mg:Ab}{ρ:Ae}{H:Hp}{a:Addr}{o:Obj}{kvs:List (Key×V)}{u:HO}
def oQ (ha:H a=some (.frz o (.dK kvs))) {b:Addr}{w:HO}(h:H b=some w) (n:∀o k,w ≠ .frz o (.dK k)):upd H a u b=some w:=by
 rw [zW]
 ·exact h
 ·intro z;subst z;rw [ha] at h;cases h;exact n _ _ rfl
def Ng (ha:H a=some (.frz o (.dK kvs))) {p:Addr}{xs:List V}(h:bg K H p xs):bg K (upd H a u) p xs:=by
 rcases h with (h|⟨o,h⟩)|h
 ·exact .inl (.inl (oQ ha h (λ_ _=>nofun)))
 ·exact .inl (.inr ⟨o,oQ ha h (λ_ _=>nofun)⟩)
 ·exact .inr h
def Nh (ha:H a=some (.frz o (.dK kvs))) {p:Addr}{xs:List V}(h:g9 K H p xs):g9 K (upd H a u) p xs:=by
 rcases h with ⟨o,h⟩|h
 ·exact .inl ⟨o,oQ ha h (λ_ _=>nofun)⟩
 ·exact .inr h
mutual
theorem R.th (ha:H a=some (.frz o (.dK kvs))):∀(x:PV) {v:V},R K mg ρ H x v->R K mg ρ (upd H a u) x v
 | .non,_,h=>h
 | .bl _,_,h=>h
 | .int _,_,h=>h
 | .str _,_,h=>h
 | .ty _,_,h=>h
 | .tup xs,_,h=>by
  obtain ⟨a,vs,h1,h2,h3⟩:=h
  exact ⟨a,vs,h1,Ng ha h2,Rs.th ha xs h3⟩
 | .frl xs,_,h=>by
  obtain ⟨a,vs,h1,h2,h3⟩:=h
  exact ⟨a,vs,h1,Nh ha h2,Rs.th ha xs h3⟩
 | .ref n,_,h=>h
 | .fn _,_,h=>h
 | .kd ks xs,_,h=>by
  obtain ⟨a,us,vs,h1,h2,h4,h3⟩:=h
  exact ⟨a,us,vs,h1,h2,h4,Rs.th ha xs h3⟩
 | .exo c ks xs,_,h=>by
  obtain ⟨a,C,d,vs,h1,h2,h3,h4,h5,h6⟩:=h
  exact ⟨a,C,d,vs,h1,h2,oQ ha h3 (λ_ _=>nofun),oQ ha h4 (λ_ _=>nofun),Rs.th ha xs h5,h6⟩
theorem Rs.th (ha:H a=some (.frz o (.dK kvs))):∀(xs:An) {vs:List V},Rs K mg ρ H xs vs->Rs K mg ρ (upd H a u) xs vs
 | [],_,h=>h
 | x::xs,_,h=>by
  obtain ⟨v,r,h1,h2,h3⟩:=h
  exact ⟨v,r,h1,R.th ha x h2,Rs.th ha xs h3⟩
end
def bj.th (ha:H a=some (.frz o (.dK kvs))) {env:zc}{U:L2.St}(h:bj K mg ρ H env U):bj K mg ρ (upd H a u) env U :=
 ⟨h.len,λi x hx=>let ⟨v,p,q⟩:=h.at_ i x hx;⟨v,p,R.th ha x q⟩⟩
end
section
variable {X:Cx}{Er:XK}{pos:Pos}{o:Expr}{ez:List Stmt}{gb:Aj}{fo:Ai}{fs:Ah}
end
end Mi
namespace L2
open PySem PySem.Spec PyProof.Rows PySem.W
end L2
namespace Mi
open PySem L2 PySem.W PySem.Spec
section
variable {X:Cx}{Er:XK}{K:Frag}{mg:Ab}{pos p apos a0:Pos}{o e f:Expr}{fo fk fx:Ai}
def pairOf:PV->Option (PV×PV)
 | .tup [x,y]=>some (x,y)
 | _=>none
def Ni {q:PV}{r:PV×PV}(h:pairOf q=some r):q=.tup [r.1,r.2]:=by
 unfold pairOf at h
 split at h
 ·cases h;rfl
 ·cases h
def k7 (fe:Ai) (env:zc):List PV->Al
 | [],ys,st=>.ok (.ref st.length) (st++[.lst ys])
 | q::xs,ys,st=>match pairOf q with
  | some r=>(bE (fe (some r.1::some r.2::env) st)).bind λz ae=>k7 fe env xs (ys++[z]) ae
  | none=>.stuck
def Nj {fe:Ai}{env:zc}{q:PV}{xs ys:An}{st:ao}{ρ:Ae}{H:Hp}{good:List Addr->Hp->PV->ao->Prop}(h:Out K mg ρ H (k7 fe env (q::xs) ys st) good Er):∃x y,q=.tup [x,y]/\Out K mg ρ H ((bE (fe (some x::some y::env) st)).bind λz ae=>k7 fe env xs (ys++[z]) ae) good Er:=by
 simp only [k7] at h
 cases hq:pairOf q with
 | none=>simp only [hq] at h;exact h.elim
 | some r =>
  simp only [hq] at h
  exact ⟨r.1,r.2,Ni hq,h⟩
def C6:Sq->Option (An)
 | .im xs=>some xs
 | .rf _=>none
def C7 (src:zc->Mo Sq) (fe:Ai):Ai:=λenv st=>(src env st).bind λq ae=>match C6 q with
 | some xs=>if xs.length<=lim then k7 fe env xs [] ae else .stuck
 | none=>.stuck
def Nk {elt iter:Expr} {x y:Str} {kt:Nat} {px py tp:Pos} {scope:Scope} {src:zc->Mo Sq} {fe:Ai} {N:Ad} (hc:X.calm=true) (S:c5 X.env.scope scope [x,y]) (eN:X.N=N) (cm:((".0" : Str)::([x,y]++N)).Nodup)
  (hi:MI X Er (.Tuple [.Name x px,.Name y py] kt tp) iter src) (he:∀cl C af ah fp,ME (eB X scope cl [x,y] C af ah fp (λ_ _=>False)) XN elt fe)
  (hx:scope.names.lookup x=some .local:=by rfl) (hy:scope.names.lookup y=some .local:=by rfl) (hs:∀v,foldedSetIterable iter X.env v=pure v:=by intro _;rfl) :
  ME X Er (.ListComp elt [⟨.Tuple [.Name x px,.Name y py] kt tp,iter,[],0⟩] scope pos) (C7 src fe):=by
 have hN:([x,y]++X.N).Nodup:=by rw [eN];exact (jQ.mp cm).2
 have gh:∀cl C af ah fp E,PG (eB X scope cl [x,y] C af ah fp E) (.Tuple [.Name x px,.Name y py] kt tp) (sC X.K 2 (nu (wb 0) (nu (wb 1) sy))):=λcl C af ah fp E=>sD (n:=2) hc
  (l_ (wB (X:=eB X scope cl [x,y] C af ah fp E) (i:=0) hN rfl (.inl (jO hx)) (.inr (jO hx)))
  (l_ (wB (X:=eB X scope cl [x,y] C af ah fp E) (i:=1) hN rfl (.inl (jO hy)) (.inr (jO hy))) sA))
 exact PE.weak (tI (te:=tM X.K X.mg XN fe) (tt:=mi) hc S eN cm hi gh (λcl C af ah fp=>A7) (λcl C af ah fp=>he cl C af ah fp) hs) λU H Q ⟨env,st,ρ,re,rs,h⟩=>⟨env,st,ρ,re,rs,h.then λaq H0 q dj e0 s0 h0 J wk=>by
  cases q with
  | rf n=>exact h0.elim
  | im xs =>
   obtain ⟨hl,h0⟩:=Out.ifp (show Out X.K X.mg aq H0 (if xs.length<=lim then k7 fe env xs [] dj else .stuck) (gV X.K X.mg Q) Er from h0)
   obtain ⟨w1,w2,w3⟩:=wk
   refine ⟨λi m ys H=>m=xs.length-i/\i<=xs.length/\ys.length=i/\∃ps st ρ,Rs X.K X.mg ρ H ps ys/\bf X.K X.mg ρ H st/\Ext aq H0 ρ H/\Out X.K X.mg ρ H (k7 fe env (xs.drop i) ps st) (gV X.K X.mg Q) Er,⟨xs.length,by simp,jc _,rfl,[],dj,aq,rfl,s0,Ext.refl,h0⟩,?_⟩
   rintro i m ys H ⟨rfl,hi,hy,ps,st,ρ,cy,rs,ex,h⟩
   by_cases bu:i<xs.length
   ·refine .inr ⟨w1 i ρ H ex bu,yZ (by omega),λv H' yy=>?_⟩
    obtain ⟨x,hx,bN,s2,rx⟩:=w3 i ρ H st v H' ex rs bu yy
    have hd:xs.drop i=x::xs.drop (i+1):=by
     rw [jP bu]
     have:=(yt.mp hx).2
     rw [this]
    rw [hd] at h
    obtain ⟨p,q,rfl,h⟩:=Nj h
    obtain ⟨a,vs,rfl,h1,h2⟩:=rx
    obtain ⟨u,w,rfl,r1,r2⟩:=Rs.two h2
    refine ⟨a,[u,w],rfl,h1,rfl,u,[w],rfl,w,[],rfl,rfl,[some u,some w],rfl,rfl,?_⟩
    have gM:bj X.K X.mg ρ H' (some p::some q::env) (some u::some w::U):=((re.ext (e0.trans (ex.trans bN))).cons r2).cons r1
    simp only [mi,↓reduceIte]
    exact ⟨_,st,ρ,gM,s2,ju (Out.ext h bN) λaB H4 y dN e4 s4 h4 v4 r4=>⟨xs.length-(i+1),by omega,rfl,bu,by simp [hy],ps++[y],dN,aB,Rs.snoc r4 (Rs.ext (bN.trans e4) ps cy),s4,(ex.trans bN).trans e4,h4⟩⟩
   ·have e:i=xs.length:=by omega
    subst e
    rw [List.drop_length] at h
    exact .inl ⟨w2 _ ρ H ex (yd _),yZ (by omega),λl hl=>Out.newList h rs cy hl⟩⟩
inductive oR (X:Cx) (Er:XK):List (Option Expr)->List Expr->List ((Ai)×(Ai))->Prop
 | nil:oR X Er [] [] []
 | cons {k v:Expr} {fk fv:Ai} {ks:List (Option Expr)} {vs:List Expr} {fs:List ((Ai)×(Ai))} (hk:ME X Er k fk) (hv:ME X Er v fv) (hr:oR X Er ks vs fs):oR X Er (some k::ks) (v::vs) ((fk,fv)::fs)
def oR.len {ks:List (Option Expr)}{vs:List Expr}{fs:List ((Ai)×(Ai))}(h:oR X Er ks vs fs):ks.length=vs.length/\ks.length=fs.length/\ks.all (·.isSome)=true:=by
 induction h with
 | nil=>exact ⟨rfl,rfl,rfl⟩
 | cons hk hv hr ih=>exact ⟨by simp [ih.1],by simp [ih.2.1],by simpa using ih.2.2⟩
end
section
variable {K:Frag}{mg:Ab}{h:Heap}
def k8 (ks:Ad) (e:DictEntry):Bool:=match e.key with
 | .str x _=>ks.contains x
 | _=>false
def Nl {ks:Ad}{e:DictEntry}(h:k8 ks e=true):∃x∈ks,∃t,e.key=.str x t:=by
 unfold k8 at h
 split at h
 ·rename_i x t ek;exact ⟨x,by simpa using h,t,ek⟩
 ·cases h
def zrp {w:World} {name:Str} {O:Addr} {es:Array DictEntry} {n:Nat} {ks:Ad} {qs:An} (X:K.In h) (G:h.Ns mainGlobals mg) (aO:nsIn K mainGlobals name=some (some (.ref O))) (lO:K.lookup O=some ⟨.type "dict", none,.dict es n,#[]⟩) (hk:KeysLit w.params es.toList) (no:(O==sysModules)=false)
  (hl:ks.length=qs.length) (qQ:es.toList.all (k8 ks)=true)
  (hi:∀p∈ks.zip qs,∃u v,nsIn K O p.1=some (some u)/\RelV v u/\∀ρ H,R K mg ρ H p.2 v):∀Y:Cx,Y.K=K->Y.mg=mg->Y.w=w->KdF Y name ks qs true:=λY e1 e2 e3=>by
 have qQ:∀e∈es.toList,∃x∈ks,∃t,e.key=.str x t:=λe he=>Nl (List.all_eq_true.mp qQ e he)
 refine ⟨O,by rw [e2];exact mg_of X G aO,⟨⟨es,n,by rw [e1];exact lO,by rw [e3];exact hk⟩,no⟩,λz q hz=>?_,λ_ z hz=>?_⟩
 ·rw [e1,e2]
  exact hi _ (Cg hz)
 ·have hn:z∉ks:=λnR=>by
   obtain ⟨i,hi⟩:=List.getElem?_of_mem nR
   have sk:i<qs.length:=by rw [<-hl];exact (yt.mp hi).1
   have:=List.lookup_eq_none_iff.mp hz (z,qs[i]) (List.mem_iff_getElem?.mpr ⟨i,by simp [List.getElem?_zip_eq_some,hi,sk]⟩)
   simp at this
  rw [e1]
  unfold nsIn
  rw [lO]
  dsimp only
  have f1:es.toList.find? (·.key.isStr z)=none:=by
   rw [List.find?_eq_none]
   intro e he
   obtain ⟨x,hx,t,ek⟩:=qQ e he
   rw [ek]
   intro hc
   have:x=z:=by
    simp [Value.isStr] at hc
    exact hc
   exact hn (this▸hx)
  rw [f1]
  dsimp only
  rw [zF]
  intro hc
  obtain ⟨e,he,hr⟩:=List.any_eq_true.mp hc
  obtain ⟨x,hx,t,ek⟩:=qQ e he
  simp [DictEntry.refKey,ek] at hr
end
section
variable {X:Cx}{Er:XK}{K:Frag}{mg:Ab}
def call_len_dict:bQ X (.builtin "len") (λxs H Q=>∃p kvs,xs=[.ref p]/\H p=some (.dK kvs)/\Q (.int kvs.length) H):=by
 intro pins s U H xs us Q I r h
 obtain ⟨p,kvs,rfl,hp,q⟩:=h
 obtain ⟨u,rfl,rx⟩:=iA r
 cases rx
 exact Jf I (.inl hp) λt s' I'=>⟨.int kvs.length,H,I',⟨t,rfl⟩,q⟩
def yr:Al:=λxs st=>match xs with
 | [.ref n]=>match st[n]? with
  | some (.dic ks _)=>.ok (.int ks.length) st
  | _=>om xs st
 | _=>om xs st
def jC:cV X (.builtin "len") yr:=by
 obtain ⟨r,h1,h2⟩:=KP (X:=X)
 refine ⟨_,h1.or call_len_dict,fun ρ H st xs vs Q E s rx h=>?_⟩
 by_cases hx:∃n ks ys,xs=[.ref n]/\st[n]?=some (.dic ks ys)
 ·obtain ⟨n,ks,ys,rfl,e⟩:=hx
  have h:Out X.K X.mg ρ H (.ok (.int ks.length) st) (gV X.K X.mg Q) E:=by
   simpa only [yr,e] using h
  obtain ⟨v,rfl,rv⟩:=Rs.one rx
  obtain ⟨a,ws,rfl,_,k1,k2,k3⟩:=R.refD s rv e
  refine .inr ⟨a,_,rfl,k1,?_⟩
  have hl:(kz ks ws).length=ks.length:=by simp [kz,k3]
  rw [hl]
  exact Out.now (x:=PV.int ks.length) h s _ rfl
 ·refine .inl (h2 ρ H st xs vs Q E s rx ?_)
  have:yr xs st=om xs st:=by
   unfold yr
   split
   ·rename_i n
    split
    ·rename_i ks ys e;exact absurd ⟨n,ks,ys,rfl,e⟩ hx
    ·rfl
   ·rfl
  rw [this] at h
  exact h
end
section
variable {α:Type}{env:zc}{st:ao}{fa fb fo fk fx:Ai}{fs:Ah}{g:Aj}
def C8 {n:Nat}{ks:Ad}{xs:An}(h:st[n]?=some (.dic ks xs)) (k:List Str->List PV->Res α):yW st n k=k ks xs:=by unfold yW;rw [h]
def cA {n:Nat}{xs:An}(h:st[n]?=some (.lst xs)):yr [.ref n] st=.ok (.int xs.length) st:=by
 simp only [yr,h]
 show yp st n _=_
 rw [yK h]
@[simp] def Nm (xs:An):yr [.tup xs] st=.ok (.int xs.length) st:=(rfl)
@[simp] def Nn (xs:An):yr [.frl xs] st=.ok (.int xs.length) st:=(rfl)
end
end Mi
namespace L2
open PySem PySem.Spec PyProof.Rows PySem.W
section
variable {X:Cx}
end
end L2
namespace Mi
open PySem L2 PySem.W PySem.Spec
section
variable {X:Cx}{Er:XK}{pos:Pos}{K:Frag}{mg:Ab}{fs:Ah}
end
end Mi
namespace PySem
open Sem (wp)
def Lr.nolen:typeLookup (.type "list_reverseiterator") "__len__" = pure none:=by rw [typeLookup_type,builtinLookup_eq_fast];kernel_rfl
def Lr.hint:typeLookup (.type "list_reverseiterator") "__length_hint__" = pure (some (.builtin "list_reverseiterator.__length_hint__")):=by rw [typeLookup_type,builtinLookup_eq_fast];kernel_rfl
section
variable {prog:Program}{w:World}{A:Around}{s:Shared}{R:Result->Shared->Prop}
variable {I:Addr}{fp wr:Ae}{G:Array GenState->Array GenState->Prop}{n:Nat}{P:Nat->Value->Prop}{St:Nat->Shared->Prop}
theorem Lr.extend (W:WalksS prog w A.in1 I fp wr G n P St) (hT:∀i s,St i s->s.TypeIs (.ref I) "list_reverseiterator") (S:Addr) (res:Value) (aL:Nat) (bw:St 0 s) (k_:S∉fp) (hI:I∈fp)
  (hS:s.heap.get? S=some { cls:=.type "list", data:=.seq #[] aL })
  (hR:∀s' bU c',Moved (S::wr) G s s'->s'.heap.get? S=some { cls:=.type "list", dict:=none,data:=.seq bU c',slots:=#[] }->ItemsOf P bU n->R (.ok (.ret res)) s') (hn:n<=sizeLine:=by size_fits) :
  wpAny (model prog w) A.in1 (Builtin.List.listExtendWith (.ref S) (.ref I) res)
   (λfin s'=>match fin with | .done f=>R (.ok f) s' | .again c'=>c'.quiet=true/\codeAny (model prog w) A c' R s') (λe s'=>R (.error e) s') s:=by
 have Np:S≠I:=λe=>k_ (e▸hI)
 unfold Builtin.List.listExtendWith
 refine zp (wpAny_typeOf (hT 0 _ bw) ?_)
 have h1:Builtin.List.listSameRef (.ref S) (.ref I)=false:=by simp [Builtin.List.listSameRef,Np]
 rw [zF (by rw [h1];decide)]
 refine zp (W.self 0 _ _ _ bw ?_)
 refine zp (jN ?_)
 unfold Builtin.List.listLengthHint
 refine zp (wpAny_specialOf (hT 0 _ bw) Lr.nolen ?_)
 show wpAny _ A.in1 (specialOf (Value.ref I) (Str.ofString "__length_hint__") >>= _) _ _ _
 refine zp (wpAny_specialOf (hT 0 _ bw) Lr.hint ?_)
 generalize hid:("list_reverseiterator.__length_hint__" : String)=id0
 wp_delta
 rw [show splitId id0=some ("list_reverseiterator", "__length_hint__") from by subst hid;decide +kernel]
 subst hid
 refine zp (wpAny_isInstance (b:=true) (hT 0 _ bw) (by rw [isSubtype_type];kernel_rfl) ?_)
 refine zK ?_
 rw [zF (by decide)]
 refine zK ⟨plainId_quiet F.plain_extend_loop _,codeAny_extend_loopS W hn _ k_ _ n 0 _ _ _ rfl (jc _) bw hS (ItemsOf.nil P) λs' bU c' hm oS dB=>?_⟩
 exact hR s' bU c' hm oS dB
end
section
variable {prog:Program}{w:World}{A:Around}{s:Shared}{R:Result->Shared->Prop}
variable {I:Addr}{fp wr:Ae}{G:Array GenState->Array GenState->Prop}{n:Nat}{P:Nat->Value->Prop}{St:Nat->Shared->Prop}
theorem Lr.init (W:WalksS prog w A.in1 I fp wr G n P St) (hT:∀i s,St i s->s.TypeIs (.ref I) "list_reverseiterator") (S:Addr) (bw:St 0 s) (k_:S∉fp) (hI:I∈fp)
  (hS:s.heap.get? S=some { cls:=.type "list", data:=.seq #[] })
  (hR:∀s' bU c',Moved (S::wr) G s s'->s'.heap.get? S=some { cls:=.type "list", dict:=none,data:=.seq bU c',slots:=#[] }->ItemsOf P bU n->R (.ok (.ret .none)) s') (hn:n<=sizeLine:=by size_fits) :
  wpAny (model prog w) A.in1 (Builtin.«list.__init__» ⟨[.ref S,.ref I],[]⟩)
   (λfin s'=>match fin with | .done f=>R (.ok f) s' | .again c'=>c'.quiet=true/\codeAny (model prog w) A c' R s') (λe s'=>R (.error e) s') s:=by
 show wpAny _ A.in1 (do let old <-Builtin.List.listItems (.ref S);Builtin.List.listUpdate (.ref S) (λ_=>#[]);letGo old.toList.reverse;Builtin.List.listExtendWith (.ref S) (.ref I) .none) _ _ s
 refine zp ?_
 unfold Builtin.List.listItems
 refine zp (wpAny_seqItems hS rfl (zK ?_))
 show wpAny _ A.in1 (updateSeq S (λ_=>#[]) >>= λ_=>letGo (#[]:Array Value).toList.reverse >>= λ_=>Builtin.List.listExtendWith (.ref S) (.ref I) .none) _ _ s
 refine zp (wpAny_updateSeq hS rfl ?_)
 have aP:=Heap.get?_update_self (Obj.mapSeq (λ_=>(#[]:Array Value))) hS rfl
 have kI:∀b o,b≠S->s.heap.get? b=some o->(s.heap.update S (Obj.mapSeq (λ_=>(#[]:Array Value)))).get? b=some o :=
  λb o hb e=>(j8 _ _ (yD hb)).trans e
 refine zp (wpAny_letGo ?_)
 refine Lr.extend (hn:=hn) W hT S .none _ (W.frame 0 s _ s.toks bw (yd _) λb hb o e=>kI b o (λh=>k_ (h▸hb)) e) k_ hI aP λs' bU c' hm oS dB=>?_
 exact hR s' bU c' (Moved.trans W.gtrans ((Moved.refl W.grefl).then_heap (yd _) λb o hb e=>kI b o (λh=>hb (h▸jk)) e) hm) oS dB
end
section
variable {prog:Program}{w:World}{A:Around}{E:Aa}{s:Shared}
variable {I:Addr}{fp wr:Ae}{G:Array GenState->Array GenState->Prop}{n:Nat}{P:Nat->Value->Prop}{St:Nat->Shared->Prop}
def Lr.call {Q:Aa} (W:WalksS prog w A.in1.in1 I fp wr G n P St) (hT:∀i s,St i s->s.TypeIs (.ref I) "list_reverseiterator") (bw:St 0 s) (Nq:∀b∈fp,b<s.heap.objs.size) (hI:I∈fp)
  (hQ:∀s' bU c',Moved (s.heap.objs.size::wr) G { s with heap:=s.heap.push { cls:=.type "list", data:=.seq #[] } } s' ->
   s'.heap.get? s.heap.objs.size=some { cls:=.type "list", dict:=none,data:=.seq bU c',slots:=#[] }->ItemsOf P bU n->Q (.ref s.heap.objs.size) s') (hn:n<=sizeLine:=by size_fits) :
  wpAny (model prog w) A (call (.type "list") [.ref I]) Q E s:=by
 have k_:s.heap.objs.size∉fp:=λhm=>Nat.lt_irrefl _ (Nq _ hm)
 refine callType_codes (Q₁:=λobj ak=>obj=.ref s.heap.objs.size/\ak={ s with heap:=s.heap.push { cls:=.type "list", data:=.seq #[] } }) F.called_list (F.typeCall_list_1 _) F.entry_list_init
  (code_list_new _ ⟨rfl,rfl⟩) λobj ak aw=>?_
 obtain ⟨rfl,rfl⟩:=aw
 have hS:(s.heap.push { cls:=.type "list", data:=.seq #[] }).get? s.heap.objs.size=some { cls:=.type "list", data:=.seq #[] }:=yP _ rfl
 refine ⟨⟨_,hS,rfl⟩,F.args_list_init_2 _ _,Lr.init (hn:=hn) W hT _ (W.frame 0 s _ s.toks bw (yd _) λb _ o e=>zZ _ e) k_ hI hS λs' bU c' hm oS dB=>?_⟩
 exact ⟨rfl,hQ s' bU c' hm oS dB⟩
end
end PySem
namespace L2
open PySem PySem.Spec PyProof.Rows PySem.W
section
variable {X:Cx}
end
end L2
namespace Mi
open PySem L2 PySem.W PySem.Spec
section
variable {X:Cx}{Er:XK}{pos:Pos}{K:Frag}{mg:Ab}{fs:Ah}
end
section
variable {X:Cx}{Er:XK}{pos pos':Pos}{o i value:Expr}{fo fi fv:Ai}
end
section
variable {X:Cx}
end
end Mi
namespace L2
open PySem PySem.Spec PyProof.Rows PySem.W
section
variable {prog:Program}{w:World}{A:Around}{E:Aa}{s:Shared}
end
section
variable {X:Cx}{pos:Pos}
end
end L2
namespace Mi
open PySem L2 PySem.W PySem.Spec
section
variable {X:Cx}{Er:XK}{pos:Pos}{e:Expr}{fa:Ai}
end
end Mi
namespace L2
open PySem PySem.Spec PyProof.Rows PySem.W
section
variable {prog:Program}{w:World}{A:Around}{E:Aa}{s:Shared}
end
end L2
namespace Mi
open PySem L2 PySem.W PySem.Spec
section
variable {X:Cx}{Er:XK}{pos:Pos}{ez:List Stmt}{gb:Aj}{fs:Ah}
end
end Mi
namespace L2
open PySem PySem.Spec PyProof.Rows PySem.W
section
variable {prog:Program}{w:World}{A:Around}{E:Aa}{s:Shared}
def Nr {a:Addr}{vs:List (Key×Value)}{Q:Aa}(hd:s.heap.DictOf (aY prog w) a vs) (ha:(a==sysModules)=false) (hz:vs.length<=sizeLine)
  (h:∀h',h'.DictOf (aY prog w) s.heap.objs.size vs->(∀c o,s.heap.get? c=some o->h'.get? c=some o)->Q (.ref s.heap.objs.size) { s with heap:=h' }) :
  wpAny (model prog w) A (call (.type "dict") [.ref a]) Q E s:=by
 refine callType_codes (Q₁:=λobj ak=>obj=.ref s.heap.objs.size/\ak={ s with heap:=s.heap.push { cls:=.type "dict", data:=.dict #[] } }) F.kt_called_dict (F.kt_typeCall_dict_1 _) F.entry_dict_init (kt_code_dict_new _ ⟨rfl,rfl⟩) ?_
 rintro obj ak ⟨rfl,rfl⟩
 have oU:(s.heap.push { cls:=.type "dict", data:=.dict #[] }).DictOf (aY prog w) s.heap.objs.size []:=Heap.DictOf.new s.heap
 have up:∀c o,s.heap.get? c=some o->(s.heap.push { cls:=.type "dict", data:=.dict #[] }).get? c=some o:=λc o e=>zZ _ e
 have dH:(s.heap.push { cls:=.type "dict", data:=.dict #[] }).DictOf (aY prog w) a vs:=hd.push _
 have lt:a<s.heap.objs.size:=let ⟨_,_,_,ho,_⟩:=hd;yf ho
 have ne:s.heap.objs.size≠a:=Nat.ne_of_gt lt
 have nd:(vs.map (·.1)).Nodup:=let ⟨_,_,_,_,_,_,_,_,hn⟩:=hd;hn
 refine ⟨oU.typeIs,F.args_dict_init_2 _ _,?_⟩
 unfold Builtin.«dict.__init__»
 refine zp ?_
 unfold Builtin.Dict.selfAndRest
 refine zp (wpAny_notOrdered_dict oU.typeIs ?_)
 show wpAny _ _ (pure (s.heap.objs.size,[Value.ref a])) _ _ _
 refine zK ?_
 show wpAny _ _ (Builtin.Dict.updateFrom "dict.__init__" s.heap.objs.size (.ref a) [] .none) _ _ _
 unfold Builtin.Dict.updateFrom
 refine zp (wpAny_typeOf dH.typeIs ?_)
 rw [zF (by decide)]
 refine zp ?_
 unfold Builtin.Dict.merge
 refine zp ?_
 unfold Builtin.Dict.readDirectly
 refine zp (wpAny_isInstance dH.typeIs isSubtype_dict_dict ?_)
 simp only [Bool.not_true,Bool.false_eq_true,if_false]
 refine zp (wpAny_specialOf dH.typeIs F.slot_dict_iter.lookup (zK ?_))
 simp only [beq_self_eq_true,wy]
 refine zp (zK ?_)
 refine wpAny_mergeDict (hsz:=by simpa using hz) ne ha oU dH λh' h1 h2 Nt=>?_
 rw [merged_nil_of_nodup vs nd] at h1
 show wpAny _ _ (Builtin.Dict.addKeywords s.heap.objs.size [] >>= _) _ _ _
 refine zp (zK (zK ?_))
 exact ⟨rfl,h h' h1 λc o e=>Nt.extBut c o (yz (yf e)) (up c o e)⟩
end
def Nu {X:Cx}:bQ X (.type "dict") (λxs H Q=>∃(a:Addr) (kvs:List (Key×V)),xs=[.ref a]/\H a=some (.dK kvs)/\∀q,H q=none->Q (.ref q) (upd H q (.dK kvs))):=by
 intro pins s U H xs us Q I r h
 obtain ⟨a,kvs,rfl,hH,q⟩:=h
 obtain ⟨u,rfl,ru⟩:=iA r
 cases ru
 obtain ⟨hz,ha,vs,rel,dd⟩:=tL I.hok hH
 refine Nr dd ha (by rw [<-rel.length];exact hz) λh' d2 keep=>⟨.ref s.heap.objs.size,_,I.laid (a:=s.heap.objs.size) (o:=.dK kvs) (t':=s.toks) keep (yd _) (Be hz ?_ rel d2),rfl,q _ (I.hok.fresh (yd _))⟩
 exact beq_eq_false_iff_ne.mpr (yD (yz I.big))
end L2
namespace Mi
open PySem L2 PySem.W PySem.Spec
section
variable {X:Cx}
def vj:Al:=λxs st=>match xs with
 | [.ref n]=>yW st n λks xs=>.ok (.ref st.length) (st++[.dic ks xs])
 | _=>.stuck
def Nv:cV X (.type "dict") vj:=⟨_,Nu,fun ρ H st xs vs Q E s r h=>by
 unfold vj at h
 split at h
 ·rename_i n
  obtain ⟨ks,ys,hn,h⟩:=qu h
  obtain ⟨v,rfl,rv⟩:=r.one
  obtain ⟨a,vs,rfl,ha,k1,k2,k3⟩:=R.refD s rv hn
  refine ⟨a,_,rfl,k1,λq hq=>?_⟩
  have ex:Ext ρ H (ρ++[q]) (upd H q (.dK (kz ks vs))):=Ext.push hq
  exact h (ρ++[q]) _ ex (s.push hq ⟨vs,yx,Rs.ext ex ys k2,k3⟩) _ ⟨q,rfl,by rw [<-s.len];simp⟩
 ·exact h.elim⟩
end
end Mi
namespace L2
open PySem PySem.Spec PyProof.Rows PySem.W
end L2
namespace Mi
open PySem L2 PySem.W PySem.Spec
section
variable {X:Cx}{Er:XK}{pos:Pos}
def fw (ft:Ak) (fe:Ai) (env:zc):List PV->Al
 | [],ys,st=>.ok (.ref st.length) (st++[.lst ys])
 | x::xs,ys,st=>(bE (ft (some x::env) st)).bind λb ae=>if b=true then (bE (fe (some x::env) ae)).bind λy av=>fw ft fe env xs (ys++[y]) av else fw ft fe env xs ys ae
def dz (ft:Ak) (fe:Ai) (env:zc) (n:Nat):Nat->Nat->Al
 | 0,_,_,_=>.stuck
 | m+1,i,ys,st=>yp st n λxs=>match xs[i]? with
  | none=>.ok (.ref st.length) (st++[.lst ys])
  | some x=>(bE (ft (some x::env) st)).bind λb ae=>if b=true then (bE (fe (some x::env) ae)).bind λy av=>dz ft fe env n m (i+1) (ys++[y]) av else dz ft fe env n m (i+1) ys ae
def lQ (ft:Ak) (fe:Ai) (env:zc):Sq->Mo PV
 | .im xs,st=>if xs.length<=lim then fw ft fe env xs [] st else .stuck
 | .rf n,st=>dz ft fe env n (lim+1) 0 [] st
def oV (src:zc->Mo Sq) (ft:Ak) (fe:Ai):Ai:=λenv st=>(src env st).bind λq ae=>lQ ft fe env q ae
theorem Nw {src:zc->Mo Sq}{ft:Ak}{fe:Ai}(U:L2.St) (H:Hp) (Q:VK) (hh:tM X.K X.mg Er (oV src ft fe) U H Q):sZ (C4 X Er src) (wb 0) (mv X.K X.mg XN ft) (tM X.K X.mg XN fe) 1 U H Q:=by
 obtain ⟨env,st,ρ,re,rs,h⟩:=hh
 refine ⟨env,st,ρ,re,rs,h.then λaq H0 q dj e0 s0 h0 J wk=>?_⟩
 cases q with
 | im xs =>
  obtain ⟨hl,h0⟩:=Out.ifp h0
  obtain ⟨w1,w2,w3⟩:=wk
  refine ⟨λi m ys H=>m=xs.length-i/\i<=xs.length/\ys.length<=i/\∃ps st ρ,Rs X.K X.mg ρ H ps ys/\bf X.K X.mg ρ H st/\Ext aq H0 ρ H/\Out X.K X.mg ρ H (fw ft fe env (xs.drop i) ps st) (gV X.K X.mg Q) Er,⟨xs.length,by simp,jc _,jc _,[],dj,aq,rfl,s0,Ext.refl,h0⟩,?_⟩
  rintro i m ys H ⟨rfl,hi,hy,ps,st,ρ,cy,rs,ex,h⟩
  by_cases bu:i<xs.length
  ·refine .inr ⟨w1 i ρ H ex bu,yZ (by omega),λv H' y=>?_⟩
   obtain ⟨x,hx,bN,s2,rx⟩:=w3 i ρ H st v H' ex rs bu y
   have hd:xs.drop i=x::xs.drop (i+1):=by
    rw [jP bu]
    have:=(yt.mp hx).2
    rw [this]
   rw [hd] at h
   simp only [fw] at h
   have gM:bj X.K X.mg ρ H' (some x::env) (some v::U):=(re.ext (e0.trans (ex.trans bN))).cons rx
   refine ⟨[some v],rfl,rfl,some x::env,st,ρ,gM,s2,ju (Out.ext h bN) λal H3 b a_ e3 s3 h3=>?_⟩
   cases b with
   | true=>exact ⟨_,a_,al,gM.ext e3,s3,ju h3 λaB H4 y dN e4 s4 h4 v4 r4=>⟨xs.length-(i+1),by omega,rfl,bu,by simp;omega,ps++[y],dN,aB,Rs.snoc r4 (Rs.ext ((bN.trans e3).trans e4) ps cy),s4,((ex.trans bN).trans e3).trans e4,h4⟩⟩
   | false=>exact ⟨xs.length-(i+1),by omega,rfl,bu,by omega,ps,a_,al,Rs.ext (bN.trans e3) ps cy,s3,(ex.trans bN).trans e3,h3⟩
  ·have e:i=xs.length:=by omega
   subst e
   rw [List.drop_length] at h
   exact .inl ⟨w2 _ ρ H ex (yd _),yZ (by omega),λl hl=>Out.newList h rs cy hl⟩
 | rf n =>
  obtain ⟨a,ha,rfl⟩:=wk
  refine ⟨λi m ys H=>m+i=lim+1/\ys.length<=i/\∃ps st ρ,Rs X.K X.mg ρ H ps ys/\bf X.K X.mg ρ H st/\Ext aq H0 ρ H/\ρ[n]?=some a/\Out X.K X.mg ρ H (dz ft fe env n m i ps st) (gV X.K X.mg Q) Er,⟨lim+1,rfl,jc _,[],dj,aq,rfl,s0,Ext.refl,ha,h0⟩,?_⟩
  rintro i m ys H ⟨hm,hy,ps,st,ρ,cy,rs,ex,ha,h⟩
  cases m with
  | zero=>exact h.elim
  | succ m =>
   obtain ⟨xs,hn,h⟩:=jy h
   obtain ⟨vs,hH,hR⟩:=rs.addr hn ha
   cases hx:xs[i]? with
   | none =>
    simp only [hx] at h
    have:vs.length<=i:=by rw [<-hR.len];exact lY.mp hx
    exact .inl ⟨⟨vs,bo.of hH,this⟩,yZ (by omega),λl hl=>Out.newList h rs cy hl⟩
   | some x =>
    simp only [hx] at h
    obtain ⟨v,hv,rv⟩:=hR.get hx
    refine .inr ⟨⟨vs,v,bo.of hH,hv⟩,yZ (by omega),λv' H' y=>?_⟩
    obtain ⟨e1,y⟩:=y
    subst e1
    have e2:=y vs (bo.of hH)
    rw [hv] at e2
    cases e2
    have gM:bj X.K X.mg ρ H' (some x::env) (some v::U):=(re.ext (e0.trans ex)).cons rv
    refine ⟨[some v],rfl,rfl,some x::env,st,ρ,gM,rs,ju h λal H3 b a_ e3 s3 h3=>?_⟩
    cases b with
    | true=>exact ⟨_,a_,al,gM.ext e3,s3,ju h3 λaB H4 y dN e4 s4 h4 v4 r4=>⟨m,jS m,by omega,by simp;omega,ps++[y],dN,aB,Rs.snoc r4 (Rs.ext (e3.trans e4) ps cy),s4,(ex.trans e3).trans e4,e4.get (e3.get ha),h4⟩⟩
    | false=>exact ⟨m,jS m,by omega,by omega,ps,a_,al,Rs.ext e3 ps cy,s3,ex.trans e3,e3.get ha,h3⟩
def Nx {elt iter c:Expr} {x:Str} {px:Pos} {scope:Scope} {src:zc->Mo Sq} {ft:Ak} {fe:Ai} {N:Ad} (hc:X.calm=true) (S:c5 X.env.scope scope [x]) (eN:X.N=N) (cm:((".0" : Str)::([x]++N)).Nodup)
  (hi:MI X Er (.Name x px) iter src) (ku:∀cl C af ah fp,MT (eB X scope cl [x] C af ah fp (λ_ _=>False)) XN c ft) (he:∀cl C af ah fp,ME (eB X scope cl [x] C af ah fp (λ_ _=>False)) XN elt fe)
  (hx:scope.names.lookup x=some .local:=by rfl) (hs:∀v,foldedSetIterable iter X.env v=pure v:=by intro _;rfl):ME X Er (.ListComp elt [⟨.Name x px,iter,[c],0⟩] scope pos) (oV src ft fe):=by
 have hN:([x]++X.N).Nodup:=by rw [eN];exact (jQ.mp cm).2
 have gh:∀cl C af ah fp E,PG (eB X scope cl [x] C af ah fp E) (.Name x px) (wb 0):=λcl C af ah fp E=>wB (X:=eB X scope cl [x] C af ah fp E) (i:=0) hN rfl (.inl (jO hx)) (.inr (jO hx))
 exact PE.weak (tI (te:=tM X.K X.mg XN fe) (tt:=mv X.K X.mg XN ft) hc S eN cm hi gh (λcl C af ah fp=>A8 (ku cl C af ah fp)) (λcl C af ah fp=>he cl C af ah fp) hs) λU H Q hh=>Nw U H Q hh
@[simp] def Ny {src:zc->Mo Sq}{ft:Ak}{fe:Ai}(env:zc) (st:ao):oV src ft fe env st=(src env st).bind λq ae=>lQ ft fe env q ae:=(rfl)
end
section
variable {K:Frag}{h:Heap}{mg:Ab}{od:Option Addr}{f:Addr}
def zjv {O t t2:Addr} {wd k1 k2 k3 y:Str} {u1 u2 u3:Tok} {n n2:Nat} {oB:Option Addr} {sl fD:Array (Option Value)} (X:K.In h) (G:h.Ns mainGlobals mg) (e:nsIn K O wd=some (some (.ref t))) (l1:K.lookup t=some ⟨.type "tuple", od,.seq #[.ref t2,.ref f] n,sl⟩)
  (l2:K.lookup t2=some ⟨.type "tuple", oB,.seq #[.str k1 u1,.str k2 u2,.str k3 u3] n2,fD⟩) (a:nsIn K mainGlobals y=some (some (.ref f))):∃u v,nsIn K O wd=some (some u)/\RelV v u/\∀ρ H,R K mg ρ H (.tup [.tup [.str k1,.str k2,.str k3],.fn y]) v:=by
 refine ⟨_,.ref t,e,rfl,mJ (xs:=[.tup [.str k1,.str k2,.str k3],.fn y]) (vs:=[.ref t2,.ref f]) l1 rfl (by simp) (.cons rfl (.cons rfl .nil)) fun ρ H=>?_⟩
 exact ⟨_,_,rfl,mJ (xs:=[.str k1,.str k2,.str k3]) (vs:=[.str k1,.str k2,.str k3]) l2 rfl (by simp) (.cons ⟨_,rfl⟩ (.cons ⟨_,rfl⟩ (.cons ⟨_,rfl⟩ .nil))) (fun ρ H=>⟨_,_,rfl,rfl,_,_,rfl,rfl,_,_,rfl,rfl,rfl⟩) ρ H,_,_,rfl,⟨f,rfl,mg_of X G a⟩,rfl⟩
end
section
variable {X:Cx}{Er:XK}{pos:Pos}
end
section
variable {X:Cx}{Er:XK}{pos:Pos}
end
section
variable {X:Cx}{Er:XK}{pos pos':Pos}{o i value:Expr}{fo fi fv:Ai}
end
end Mi
namespace L2
open PySem PySem.Spec PyProof.Rows PySem.W
section
variable {X:Cx}
end
end L2
namespace Mi
open PySem L2 PySem.W PySem.Spec
section
variable {X:Cx}{Er:XK}
def Nz {K:Frag}{mg:Ab}{ρ:Ae}{H:Hp}:∀{xs:An}{zs:Ad}{vs:List V},strsOf xs=some zs->Rs K mg ρ H xs vs->vs=zs.map V.str:=λ{xs zs vs} h r=>by
 have:=Ct h r
 rw [this]
 simp [kV,List.map_map,Function.comp_def]
end
section
variable {X:Cx}{K:Frag}{mg:Ab}
end
end Mi
namespace Mi
open PySem L2 PySem.W
section
variable {α:Type}{g g':Aj}{f fa fb fc:Ai}{fs:Ah}{t ta tb:Ak}{e e1:zc}{st s1 s2 s3:ao}{x y v:PV}{xs:An}{b:Bool}
def zP {X:Res Fl}(h:g e st=.ok (.nx e1) s1) (h':g' e1 s1=X):zA g g' e st=X:=by rw [uO,h,zL,LV,h']
def wH (h:g e st=.ok (.rt v) s1):zA g g' e st=.ok (.rt v) s1:=by rw [uO,h,zL,LW]
def ym {i:Nat}(h:f e st=.ok v s1):zO i f e st=.ok (.nx (e.set i (some v))) s1:=by rw [B9,h,zL]
def wY (h:f e st=.ok v s1):yX f e st=.ok (.nx e) s1:=by rw [B_,h,zL]
def yv (h:f e st=.ok v s1):zH f e st=.ok (.rt v) s1:=by rw [Ca,h,zL]
def ji {X:Res Fl}(h:t e st=.ok true s1) (h':g e s1=X):zV t g g' e st=X:=by rw [Cb,h,zL,zu rfl,h']
def oW {X:Res Fl}(h:t e st=.ok false s1) (h':g' e s1=X):zV t g g' e st=X:=by rw [Cb,h,zL,zF (by simp),h']
def jj (h:t e st=.ok false s1):zV t g z0 e st=.ok (.nx e) s1:=oW h (LU ..)
def zk {i:Nat}(h:e[i]?=some (some v)):zd i e st=.ok v st:=by rw [LD,h]
def zy {op:Am}{X:Res PV}(h:fa e st=.ok x s1) (h':fb e s1=.ok y s2) (h2:op x y s2=X):zh op fa fb e st=X:=by rw [LF,h,zL,h',zL,h2]
def yF {op:PV->Mo PV}{X:Res PV}(h:fa e st=.ok x s1) (h2:op x s1=X):zX op fa e st=X:=by rw [LG,h,zL,h2]
def zR {m:Al}{X:Res PV}(h:fs e st=.ok xs s1) (h2:m xs s1=X):zt m fs e st=X:=by rw [LP,h,zL,h2]
def qR (h:f e st=.ok x s1) (h':fs e s1=.ok xs s2):ze f fs e st=.ok (x::xs) s2:=by rw [uN,h,zL,h',zL]
def jp:zj e st=.ok [] st:=(rfl)
def zU (h:f e st=.ok x s1):ze f zj e st=.ok [x] s1:=qR h jp
def zY (h:f e st=.ok x s1) (h':fa e s1=.ok y s2):ze f (ze fa zj) e st=.ok [x,y] s2:=qR h (zU h')
def yl (h:fs e st=.ok xs s1) (hl:xs.length<=1000000):zG fs e st=.ok (.tup xs) s1:=by rw [B8,h,zL,zu hl]
def wJ (h:fs e st=.ok xs s1) (hl:xs.length<=1000000):jF fs e st=.ok (.ref s1.length) (s1++[.lst xs]):=by rw [LL,h,zL,zu hl]
def yj (h:f e st=.ok (.bl b) s1):mB f e st=.ok b s1:=by rw [LH,h,zL,B7]
def C9 (h:ta e st=.ok false s1) (h':tb e s1=.ok b s2):mx ta tb e st=.ok b s2:=by rw [LI,h,zL,zF (by simp),h']
def C_ (h:ta e st=.ok b s1):iJ ta e st=.ok (!b) s1:=by rw [LJ,h,zL]
def Dc {X:Res PV}(h:fa e st=.ok (.bl true) s1) (h':fb e s1=X):my fa fb e st=X:=by rw [LK,h,zL,B7,zL,zu rfl,h']
def NA {lo hi:Option Int}{fl fu:zc->Mo (Option Int)}{X:Res PV}(h:fa e st=.ok x s1) (hl:fl e s1=.ok lo s2) (hu:fu e s2=.ok hi s3) (h':qx x lo hi s3=X):iO fa fl fu e st=X:=by rw [LM,h,zL,hl,zL,hu,zL,h']
def Dd {i:Int}(h:f e st=.ok (.int i) s1):c_ f e st=.ok (some i) s1:=by rw [LN,h,zL,LO]
def iT {op:Am}{n:Nat}{ys:An}{X:Res PV}(h:fa e st=.ok (.ref n) s1) (hl:s1[n]?=some (.lst ys)) (h':fb e s1=.ok y s2) (h2:op (.ref n) y s2=X):y4 op fa fb e st=X:=by
 rw [Cc,h,zL,Cd]
 simp only [yp,hl,zL]
 rw [h',zL,h2]
def vk (i j:Int):yo (.int i) (.int j) st=.ok (.int (i+j)) st:=(rfl)
def vm (i j:Int):wc (.int i) (.int j) st=.ok (.int (i-j)) st:=(rfl)
def oX (i j:Int) (h:j≠0):yS (.int i) (.int j) st=.ok (.int (j3 i j)) st:=by show (if _ then _ else _)=_;rw [zu (by simpa using h)]
def oY (i j:Int) (h:j≠0) (h2:j.natAbs<2 ^ 200):jK (.int i) (.int j) st=.ok (.int (j4 i j)) st:=by
 show (if _ then _ else _)=_
 rw [zu]
 simp only [uh,j9,lZ]
 exact ⟨h,h2⟩
def NB (i j:Int):j5 (.int i) (.int j) st=.ok (.bl (decide (i<j))) st:=(rfl)
def NC (i j:Int):iL (.int i) (.int j) st=.ok (.bl (decide (j<i))) st:=(rfl)
def De (i j:Int):yq (.int i) (.int j) st=.ok (.bl (decide (i=j))) st:=by simp [Mi.plain,dep,bz];rfl
def ND (i j:Int):wC (.int i) (.int j) st=.ok (.bl (!decide (i=j))) st:=by simp [Mi.plain,dep,bz];rfl
def NF (i j:Str):yq (.str i) (.str j) st=.ok (.bl (decide (i=j))) st:=by simp [Mi.plain,dep,bz];rfl
def yw {m:Nat}{n:Nat}{r:ao}(hl:xs.length=m) (h:g (xs.map some++List.replicate (n-m) none) st=.ok (.rt v) r):zJ m n g xs st=.ok v r:=by
 unfold zJ
 rw [zu hl,h,zL,LY]
end
end Mi
namespace Mi
open PySem L2 PySem.W PySem.Spec
def Df:Expr->Bool
 | .Starred _ _=>false
 | _=>true
def NG {e:Expr}{es:List Expr}{env:Env}(h:Df e=true):Cs e es env:=by cases e<;>first|rfl|cases h
def zg {X:Cx}{Er:XK}{e:Expr}{es:List Expr}{fa:Ai}{fs:Ah}(ha:ME X Er e fa) (hr:MA X Er es fs) (hs:Df e=true:=by rfl):MA X Er (e::es) (ze fa fs):=BE ha hr (NG hs)
section
variable {X:Cx}{K:Frag}{mg:Ab}{Er:XK}{e o:Expr}{pos apos a0:Pos}{fo fa:Ai}{x:Str}{h:Heap}
def NH:Am
 | .str z,.ref n,st=>yp st n λxs=>match strsOf xs with
  | some ys=>if (ys.map (·.length)).sum+ys.length*z.length<=1000000 then .ok (.str (Txt.join z ys)) st else .stuck
  | none=>.stuck
 | _,_,_=>.stuck
def oZ (fo fa:Ai):Ai:=λenv st=>(fo env st).bind λo ae=>match o with
 | .str z=>(fa env ae).bind λy av=>NH (.str z) y av
 | _=>.stuck
theorem zjB (ho:ME X Er o fo) (he:ME X Er e fa) (bI:attributeBase o "join" X.env (eval o X.env)=eval o X.env:=by rfl)
  (gd:((backTo a0 (starEach [e] X.env)).all (λx=>!x.1)&&(backToKw a0 (keywordEach [] X.env)).all (λx=>x.1.isSome)&&decide ([e].length+([]:List Keyword).length+(if ([]:List Keyword).isEmpty then 0 else 1)<30))=true:=by rfl)
  (cP:(apos.endLine==a0.line)=true:=by rfl) (hs:starEach [e] X.env=(false,eval e X.env)::starEach [] X.env:=by rfl) (br:(backTo a0 (starEach [] X.env)).any (·.1)=false:=by rfl):ME X Er (.Call (.Attribute o "join" apos) [e] [] a0) (oZ fo fa) :=
 PE.weak (sS PySem.F.plainAttrs_str PySem.F.slot_str_join PySem.F.type_str_join I_ ho (p6 he p5 hs) bI gd cP hs br) λU H Q ⟨env,st,ρ,re,rs,h⟩=>⟨env,st,ρ,re,rs,h.then λag H1 x ae e1 s1 h1 v rv=>by
  cases x with
  | str z =>
   cases rv
   refine ⟨rfl,env,ae,ag,re.ext e1,s1,h1.then λam H2 y av e2 s2 h2 w c9=>?_⟩
   cases y with
   | ref n =>
    obtain ⟨p,rfl,hp⟩:=c9
    obtain ⟨xs,hn,h3⟩:=jy h2
    cases hq:strsOf xs with
    | none=>simp only [hq] at h3;exact h3.elim
    | some ys =>
     simp only [hq] at h3
     obtain ⟨hl,h4⟩:=Out.ifp h3
     obtain ⟨vs,hH,hR⟩:=s2.addr hn hp
     rw [Nz hq hR] at hH
     exact ⟨z,p,ys,rfl,rfl,.inl (.inl hH),by omega,Out.now (x:=PV.str (Txt.join z ys)) h4 s2 _ rfl⟩
   | _=>exact h2.elim
  | _=>exact h1.elim⟩
end
end Mi
namespace PySem
section
variable {M:Model}{A:Around}{E:Aa}
variable {nm q WM q':Str}{C N B N':Addr}{bs bm WN WO:Af}{cj NI:Bool}{sn WQ:Ad}{sub V2:Af}{ab WR:Bool}{col V3:Option Bool}{dd kH:Option Addr}{k0 k1 k2 k3 k5 WS WT WU WV WW:Option Value}{newId FP:String}
end
end PySem
namespace L2
open PySem PySem.Spec PyProof.Rows PySem.W
structure NJ (K:Frag) (C B:Addr):Prop where
 of:eZ K C
 sub:mroIn K C (.ref B)=some true
end L2
namespace Mi
open PySem L2 PySem.W PySem.Spec
section
variable {X:Cx}{Er:XK}{pos:Pos}
end
end Mi
namespace L2
open PySem PySem.Spec PyProof.Rows PySem.W
end L2
namespace Mi
open PySem L2 PySem.W PySem.Spec
section
variable {X:Cx}{Er:XK}{pos:Pos}{o:Expr}{ez:List Stmt}{gb:Aj}{fo:Ai}{fs:Ah}
end
end Mi
namespace L2
open PySem PySem.Spec PyProof.Rows PySem.W PySem.Builtin PySem.Builtin.ObjectAttr
end L2
namespace Mi
open PySem L2 PySem.W PySem.Spec
section
variable {K:Frag}{mg:Ab}{h:Heap}{C:Addr}
end
section
variable {P:Program}{W:World}{A:Around}{s:Shared}
end
section
variable {X:Cx}{K:Frag}{mg:Ab}{ρ:Ae}{pins:Ac}{U:L2.St}{H:Hp}{s:Shared}{st:ao}
end
section
variable {X:Cx}{K:Frag}{mg:Ab}{Er:XK}{e o:Expr}{es:List Expr}{pos p apos:Pos}{fs:Ah}{fo fa:Ai}
end
end Mi
namespace Mi
open PySem L2 PySem.W PySem.Spec PyProof.Rows
def dO (a b:Str):Bool:=decide (a.cps.toList<=b.cps.toList)
def d0 (ks:Ad):Ad:=ks.mergeSort dO
def Dg (a b c:Str) (h:dO a b=true) (h':dO b c=true):dO a c=true:=by
 unfold dO at *
 rw [lZ] at *
 exact List.le_trans h h'
def NK (a b:Str):(dO a b||dO b a)=true:=by
 unfold dO
 rw [Bool.or_eq_true,lZ,lZ]
 exact List.le_total _ _
def NL {a b:Str}(h:dO a b=true) (h':dO b a=true):a=b:=by
 unfold dO at *
 rw [lZ] at *
 have:=List.le_antisymm h h'
 cases a;cases b
 simp only at this
 rw [Str.mk.injEq]
 exact Array.toList_inj.mp this
theorem Dh:∀(l:Ad) (p:Str),risingS p l=true->(∀x∈l,dO p x=true)/\l.Pairwise (λa b=>dO a b=true)
 | [],p,_=>⟨(λx h=>by cases h),.nil⟩
 | q::r,p,h=>by
  have e:risingS p (q::r)=(!Spec.ltCps q.cps.toList p.cps.toList&&risingS q r):=rfl
  rw [e,j9,Bool.not_eq_true',ltCps_eq,decide_eq_false_iff_not,List.not_lt] at h
  obtain ⟨h1,h2⟩:=Dh r q h.2
  have pq:dO p q=true:=by unfold dO;rw [lZ];exact h.1
  refine ⟨λx hx=>?_,.cons h1 h2⟩
  rcases yE.mp hx with rfl|hx
  ·exact pq
  ·exact Dg _ _ _ pq (h1 x hx)
def NM {l:Ad}(h:sortedS l=true):l.Pairwise (λa b=>dO a b=true):=by
 cases l with
 | nil=>exact .nil
 | cons p r=>obtain ⟨h1,h2⟩:=Dh r p h;exact .cons h1 h2
def NN {ks ss:Ad}(hp:ss.Perm ks) (hs:sortedS ss=true):ss=d0 ks :=
 List.Perm.eq_of_pairwise (le:=λa b=>dO a b=true) (λa b _ _ h h'=>NL h h') (NM hs) (List.pairwise_mergeSort Dg NK ks) (hp.trans (List.mergeSort_perm ks dO).symm)
section
variable {prog:Program}{w:World}{A:Around}{E:Aa}{s:Shared}
def NP {h:Heap} {a:Addr} {vs:Af} {n:Nat} (ho:h.get? a=some (seqObj "list" vs.toArray n)) (out:Array Value):∃e,(sortedHeap h a vs out).get? a=some (seqObj "list" out e):=by
 have ha:=yf ho
 have h1:=get?_update_seq ho (λ_=>#[])
 have h2:(((h.update a (Obj.mapSeq λ_=>#[])).push (seqObj "tuple" vs.toArray 0)).push (seqObj "list" #[] 0)).get? a=some (seqObj "list" #[] (if ((#[]:Array Value).size==vs.toArray.size)=true then n else n+1)):=zZ _ (zZ _ h1)
 exact ⟨_,get?_update_seq h2 (λ_=>out)⟩
def NQ {h:Heap}{a:Addr}{vs:Af}{out:Array Value}{b:Addr}{o:Obj}(hb:b≠a) (e:h.get? b=some o):(sortedHeap h a vs out).get? b=some o:=by
 unfold sortedHeap
 rw [Heap.get?_update_ne _ _ _ _ hb]
 refine zZ _ (zZ _ ?_)
 rw [Heap.get?_update_ne _ _ _ _ hb]
 exact e
theorem NR {K:Type} [DecidableEq K] {knd:KeyKind prog w K}{d:Addr}{kvs:List (K×Value)}{ep:Nat}{ss:Ad}{Q:Aa}(hh:A.handled=none) (lo:(d==sysModules)=false) (kY:s.heap.DictAt knd d kvs ep) (Di:kvs.length<64)
  (hS:∀vs:Af,vs.length=kvs.length->(∀(j:Nat) (v:Value),vs[j]?=some v->∃k x,kvs[j]?=some (k,x)/\knd.is k v=true)->StrsAre vs ss)
  (h:∀(h1 h2:Heap) (tk:Nat) (out:Af) (e:Nat),(∀b o,s.heap.get? b=some o->h1.get? b=some o)->(∀b o,h1.get? b=some o->h2.get? b=some o)->h2.get? h1.objs.size=some (seqObj "list" out.toArray e)->StrsAre out (d0 ss)->Q (.ref h1.objs.size) { s with heap:=h2,toks:=tk }) :
  wpAny (model prog w) A (call (.builtin "sorted") [.ref d]) Q E s:=by
 refine Calls.call_function_entry kind_sorted plain_sorted entry_sorted (args_sorted1 _) ?_
 unfold Builtin.«sorted»
 refine zp (m:=checkCount "sorted" 1 1 _) (zK ?_)
 refine zp (kdu_collect (A:=A.in1) (kdl_dict (knd:=knd) (kvs:=kvs) (ep:=ep) lo) hh kY (by rw [sizeLine_eq];omega) λh' tk acc hk dB=>?_)
 have hl:acc.toList.length=kvs.length:=by rw [Array.length_toList];exact dB.1
 refine zp (wpAny_newList ?_ (by rw [hl,sizeLine_eq];omega))
 have vn:=hS acc.toList hl (λj v e=>dB.2 j v (by rw [<-Array.getElem?_toList];exact e))
 have l8:(h'.push (seqObj "list" acc.toList.toArray 0)).get? h'.objs.size=some (seqObj "list" acc.toList.toArray 0):=yP _ rfl
 refine zp (jN (jX (s:={ s with heap:=h'.push (seqObj "list" acc.toList.toArray 0),toks:=tk }) slot_list_sort ⟨_,l8,rfl⟩ entry_list_sort (list_sort_treeK (s:={ s with heap:=h'.push (seqObj "list" acc.toList.toArray 0),toks:=tk }) strKind_oneLt l8 vn.keysOf (λaQ aR rest e=>keyKind_strs (by rw [<-e];exact vn)) (by rw [hl];exact Di) λbC a1 a2=>⟨_,rfl,?_⟩) (args_list_sort _)))
 obtain ⟨WX,q1,q2,q3⟩:=sorted_out_str vn a1 a2
 obtain ⟨e,he⟩:=NP l8 ((arrOf bC).map (·.2))
 rw [NN q2 q3] at q1
 exact zK ⟨_,rfl,h h' _ tk _ e hk (λb o eb=>NQ (yz (yf eb)) (zZ _ eb)) he q1⟩
end
section
variable {X:Cx}{Er:XK}
theorem Dj:∀{out:Af}{ss:Ad},StrsAre out ss->Vals (ss.map V.str) out
 | _,_,.nil=>.nil
 | _,_,.cons y t h=>.cons ⟨t,rfl⟩ (Dj h)
def NS:List V->Hp->VK->Prop:=λxs H Q=>∃a ks ws,xs=[.ref a]/\H a=some (.dK (kz ks ws))/\ks.length=ws.length/\ks.length<64/\∀l,H l=none->Q (.ref l) (upd H l (.lst ((d0 ks).map V.str)))
def NT {ks:Ad}{ws:List V}{kv:List (Key×Value)}(hl:ks.length=ws.length) (r:KV (kz ks ws) kv) {vs:Af}(hlen:vs.length=kv.length) (h:∀(j:Nat) (v:Value),vs[j]?=some v->∃k x,kv[j]?=some (k,x)/\dP k v=true):StrsAre vs ks:=by
 induction ks generalizing ws kv vs with
 | nil =>
  cases ws with
  | nil =>
   cases r
   cases vs with
   | nil=>exact .nil
   | cons v vs=>simp at hlen
  | cons w ws=>simp at hl
 | cons k ks ih =>
  cases ws with
  | nil=>simp at hl
  | cons w ws =>
   obtain ⟨u,vf,rfl,h1,h2⟩:=u_ r
   cases vs with
   | nil=>simp at hlen
   | cons v vs =>
    obtain ⟨k',x,e,hk⟩:=h 0 v rfl
    cases e
    rcases wn hk with ⟨i,t,e1,_⟩|⟨y,t,e1,e2⟩
    ·cases e1
    ·cases e1
     subst e2
     exact .cons _ _ (ih (by simpa using hl) h2 (by simpa using hlen) λj v hj=>h (j+1) v (by simpa using hj))
theorem NU (hc:X.calm=true):bQ X (.builtin "sorted") NS:=by
 intro pins s U H xs us Q I r h
 obtain ⟨a,ks,ws,rfl,ha,hl,Di,q⟩:=h
 obtain ⟨u,rfl,ru⟩:=r.one
 obtain rfl:u=Value.ref a:=ru
 obtain ⟨hz,lo,kv,gL,hd⟩:=jw I.hok (.inl ha)
 obtain ⟨ep,kY⟩:=hd.dictAt
 have lk:kv.length=ks.length:=by rw [<-gL.length];simp [kz,hl]
 refine NR (knd:=aY X.prog X.w) (I.ok.hd hc) lo kY (by omega) (λvs hlen hv=>NT hl gL hlen hv) λh1 h2 tk out e k1 k2 he hs=>?_
 have I1:Inv X pins U H { s with heap:=h1,toks:=tk }:=I.kept (t':=tk) k1
 have hn:H h1.objs.size=none:=I1.hok.fresh (yd _)
 have lv:((d0 ks).map V.str).length<=sizeLine:=by
  rw [jZ,sizeLine_eq]
  unfold d0
  rw [List.length_mergeSort]
  omega
 exact ⟨.ref h1.objs.size,_,I1.laid (t':=tk) k2 (yd _) (show aZ X.prog X.w _ h2 _ (.lst ((d0 ks).map V.str)) from ⟨lv,out,e,Dj hs,he⟩),rfl,q _ hn⟩
def vo:Al:=λxs st=>match xs with
 | [.ref n]=>yW st n λks _=>if ks.length<64 then .ok (.ref st.length) (st++[.lst ((d0 ks).map PV.str)]) else .stuck
 | _=>.stuck
theorem NV:bootBuiltins "sorted" = some (.builtin "sorted"):=by decide +kernel
end
section
variable {prog:Program}{w:World}{A:Around}{E:Aa}{s:Shared}
end
section
variable {prog:Program}{w:World}{A:Around}{E:Aa}{s:Shared}
end
section
variable {X:Cx}{Er:XK}{o:Expr}{fo:Ai}{p pos kp cp:Pos}{j:Nat}
theorem Dk {K:Frag}{mg:Ab}{ρ:Ae}{H:Hp}:∀zs:Ad,Rs K mg ρ H (zs.map PV.str) (zs.map V.str)
 | []=>rfl
 | z::zs=>⟨_,_,rfl,rfl,Dk zs⟩
def NW (hc:X.calm=true):cV X (.builtin "sorted") vo:=⟨_,NU hc,fun ρ H st xs vs Q E s r h=>by
 unfold vo at h
 match xs,h with
 | [.ref n],h =>
  obtain ⟨ks,xs,hn,h⟩:=qu h
  obtain ⟨v,rfl,rv⟩:=r.one
  obtain ⟨a,ws,rfl,ha,k1,k2,k3⟩:=R.refD s rv hn
  obtain ⟨c,h⟩:=Out.ifp h
  refine ⟨a,ks,ws,rfl,k1,k3,c,λl hl=>?_⟩
  have ep:Ext ρ H (ρ++[l]) (upd H l (.lst ((d0 ks).map V.str))):=Ext.push hl
  exact h _ _ ep (s.push hl ⟨_,yx,Dk _⟩) _ ⟨l,rfl,by rw [<-s.len];simp⟩⟩
end
section
variable {X:Cx}{Er:XK}
end
end Mi
namespace Mi
open PySem L2 PySem.W PySem.Spec
def wZ (C:Str) (m:Al) (c:Str):Option (Al):=if c=C then some m else none
def vp {P:Program}{w:World}{K:Frag}{mg:Ab}{base:Heap}{C n:Str}{k:Nat}{m m':Al}{c:Str}(ok:bx P w K mg base C n k m) (h:wZ C m c=some m'):bx P w K mg base c n k m':=by
 unfold wZ at h
 by_cases e:c=C
 ·rw [zu e] at h;cases h;rw [e];exact ok
 ·rw [zF e] at h;cases h
end Mi
namespace HT
open PySem PySem.Spec PyProof.Rows
section
variable {prog:Program}{w:World}{A:Around}{E:Aa}{s:Shared}
end
end HT
namespace Mi
open PySem L2 PySem.W PySem.Spec PyProof.Rows
section
variable {X:Cx}{K:Frag}{mg:Ab}{Er:XK}{e k:Expr}{p2 pos:Pos}{fa:Ai}{fk:zc->Mo (Option Int)}
end
section
variable {X:Cx}{K:Frag}{mg:Ab}{Er:XK}
end
end Mi
namespace Mi
open PySem L2 PySem.W PySem.Spec
section
variable {X:Cx}{Er:XK}{pos:Pos}
end
end Mi
namespace L2
open PySem PySem.Spec PyProof.Rows PySem.W
end L2
namespace Mi
open PySem L2 PySem.W PySem.Spec
section
variable {X:Cx}{Er:XK}{e o:Expr}{apos:Pos}{fo fa:Ai}
end
end Mi
namespace L2
open PySem PySem.Spec PyProof.Rows PySem.W Mi
section
variable {X:Cx}{pins:Ac}{U:St}{H H':Hp}{s:Shared}{a b:Addr}{its:List (List Key×Addr×Value)}{k:List Key}{A:Around}{E:Aa}{r:Value}
abbrev gw (K:Frag) (H:Hp) (its:List (List Key×Addr×Value)):Prop:=∀x,x∈its->bg K H x.2.1 (x.1.map kV)
def o6 (I:Inv X pins U H s) (h:bg X.K H b (k.map kV)):(tupleKind (aY X.prog X.w)).is s.heap k b:=by
 obtain ⟨us,r,⟨o,h1,h2,n,h3⟩,_⟩:=I.tuple h
 exact ⟨o,us.toArray,n,h1,h2,h3,by simpa using tK r⟩
def o8 (I:Inv X pins U H s) (e:H a=some (dE a its)) (ks:gw X.K H its):its.length<=sizeLine/\(a==sysModules)=false/\s.heap.DictOfH (tupleKind (aY X.prog X.w)) a its:=by
 obtain ⟨⟨z,y,o,es,ep,h1,h2,h3,h4,h5⟩,_⟩:=(show aZ X.prog X.w H s.heap a (dE a its) from I.hok a _ e)
 exact ⟨z,y,o,es,ep,h1,h2,h3,h4,λx hx=>o6 I (ks x hx),h5⟩
def NX {p:Addr×Value}{Q:Aa}(hu:A.units+1<cLine) (I:Inv X pins U H s) (e:H a=some (dE a its)) (ks:gw X.K H its) (kb:bg X.K H b (k.map kV)) (hp:atKey its k=some p)
  (h:∀s',Inv X pins U H s'->Q p.2 s'):wpAny (model X.prog X.w) A (getItem (.ref a) (.ref b)) Q E s:=by
 obtain ⟨z,hd,dd⟩:=o8 I e ks
 exact wpAny_getItem_heap (tupleKind_room_in1 hu) (o6 I kb) dd hp (h _ (I.tok _))
def NY {Q:Aa}(hu:A.units+1<cLine) (I:Inv X pins U H s) (e:H a=some (dE a its)) (ks:gw X.K H its) (kb:bg X.K H b (k.map kV))
  (h:∀s',Inv X pins U H s'->Q (.bool (atKey its k).isSome) s'):wpAny (model X.prog X.w) A (compareOp .In (.ref b) (.ref a)) Q E s:=by
 obtain ⟨z,hd,dd⟩:=o8 I e ks
 exact wpAny_in_heap (tupleKind_room_in1 hu) (o6 I kb) hd dd (h _ (I.tok _))
def NZ {Q:Aa}(hu:A.units+1<cLine) (I:Inv X pins U H s) (e:H a=some (dE a its)) (ks:gw X.K H its) (kb:bg X.K H b (k.map kV))
  (h:∀s',Inv X pins U H s'->Q (.bool (!(atKey its k).isSome)) s'):wpAny (model X.prog X.w) A (compareOp .NotIn (.ref b) (.ref a)) Q E s:=by
 obtain ⟨z,hd,dd⟩:=o8 I e ks
 exact wpAny_notIn_heap (tupleKind_room_in1 hu) (o6 I kb) hd dd (h _ (I.tok _))
theorem N0 (its:List (List Key×Addr×Value)) (k:List Key) (b:Addr) (r:Value):(storedH its k b r).length<=its.length+1:=by
 unfold storedH
 split
 ·rw [jZ];omega
 ·simp
def Dl {P:Program}{w:World}{H:Hp}{h:Heap}{q:Obj}{es:Array DictEntry}{ep:Nat}(z:its.length<=sizeLine) (hd:(a==sysModules)=false) (hq:h.get? a=some q) (h2:q.ExactDict) (h3:q.data=.dict es ep)
  (h4:es.toList=its.map (entryOfKey (tupleKind (aY P w)))) (h5:(its.map (·.1)).Nodup):aZ P w H h a (dE a its) :=
 ⟨⟨z,hd,q,es,ep,hq,h2,h3,h4,h5⟩,⟨q,hq⟩,λh1 h2 ⟨z,y,o,es,ep,e,r⟩ k=>⟨z,y,o,es,ep,k _ e,r⟩⟩
theorem N1 {Q:Unit->Shared->Prop}(hu:A.units+1<cLine) (I:Inv X pins U H s) (e:H a=some (dE a its)) (ks:gw X.K H its) (kb:bg X.K H b (k.map kV)) (l:its.length<sizeLine)
  (h:∀s',Inv X pins U (upd H a (dE a (storedH its k b r))) s'->Q () s'):wpAny (model X.prog X.w) A (setItem (.ref a) (.ref b) r) Q E s:=by
 obtain ⟨z,hd,dd⟩:=o8 I e ks
 refine wpAny_setItem_heap (hsz:=z) (tupleKind_room_in1 hu) (o6 I kb) dd λh' kH hs=>h _ ?_
 obtain ⟨q,es,ep,hq,h2,h3,h4,_,h5⟩:=kH
 exact tN I (by rw [e];exact True.intro) hs ⟨q,hq⟩ (Dl (by have:=N0 its k b r;omega) hd hq h2 h3 h4 h5)
def Inv.turnE (I:Inv X pins U H s) (ha:H a=some (.dK [])):Inv X pins U (upd H a (dE a [])) s:=by
 obtain ⟨z,hd,vs,rel,o,es,ep,h1,h2,h3,h4,h6,h5⟩:=tL I.hok ha
 cases rel
 have hz:es.toList=[]:=by
  have:=h6.length
  exact List.length_eq_zero_iff.mp this
 exact I.un (h':=s.heap) (t':=s.toks) (Un.write (e:=a) (by rw [ha];trivial) (.inl rfl) (λb u _ q=>q) ⟨o,h1⟩) (bR.write (e:=a) I.hok (by rw [ha];trivial) (.inl rfl) (λb u _ q=>q) ⟨o,h1⟩ (Dl (jc _) hd h1 h2 h3 hz List.nodup_nil))
def fL (H:Hp) (a:Addr) (H':Hp) (its:List (List Key×Addr×Value)):Prop:=(H'=H/\H a=some (dE a its))\/(H a=some (.dK [])/\its=[]/\H'=upd H a (dE a []))
def fL.inv (t:fL H a H' its) (I:Inv X pins U H s):Inv X pins U H' s/\H' a=some (dE a its):=by
 rcases t with ⟨rfl,e⟩|⟨e,rfl,rfl⟩
 ·exact ⟨I,e⟩
 ·exact ⟨I.turnE e,yx⟩
def vq (K:Frag) (neg:Bool):R2:=λx y H Q=>∃a b k its H',x=.ref b/\y=.ref a/\fL H a H' its/\gw K H' its/\bg K H' b (k.map kV)/\Q (.bl (neg.xor (atKey its k).isSome)) H'
def N2 (hu:X.A.units+200<cLine):ba X (compareOp .In) (vq X.K false):=by
 intro pins s U H x y v u Q I rx ry ⟨a,b,k,its,H',ex,ey,t,ks,kb,q⟩
 subst ex ey
 obtain rfl:v=Value.ref b:=rx
 obtain rfl:u=Value.ref a:=ry
 obtain ⟨I',e⟩:=t.inv I
 exact NY (by omega) I' e ks kb λs' I2=>⟨.bl (atKey its k).isSome,H',I2,rfl,by simpa using q⟩
def N3 (hu:X.A.units+200<cLine):ba X (compareOp .NotIn) (vq X.K true):=by
 intro pins s U H x y v u Q I rx ry ⟨a,b,k,its,H',ex,ey,t,ks,kb,q⟩
 subst ex ey
 obtain rfl:v=Value.ref b:=rx
 obtain rfl:u=Value.ref a:=ry
 obtain ⟨I',e⟩:=t.inv I
 exact NZ (by omega) I' e ks kb λs' I2=>⟨.bl (!(atKey its k).isSome),H',I2,rfl,by simpa using q⟩
def N4 (K:Frag):R2:=λx y H Q=>∃a b k its H' p v,x=.ref a/\y=.ref b/\fL H a H' its/\gw K H' its/\bg K H' b (k.map kV)/\atKey its k=some p/\RelV v p.2/\Q v H'
def N5 (hu:X.A.units+1<cLine):eV X (N4 X.K):=by
 intro value slice pins s U H x y v u Q I rx ry ⟨a,b,k,its,H',p,w,ex,ey,t,ks,kb,hp,rp,q⟩ hs
 subst ex ey
 obtain rfl:v=Value.ref a:=rx
 obtain rfl:u=Value.ref b:=ry
 obtain ⟨I',e⟩:=t.inv I
 obtain ⟨_,_,dd⟩:=o8 I' e ks
 exact PyProof.Rows.tail_any dd.typeIs PySem.F.slot_dict_getitem.lookup (NX hu I' e ks kb hp λs' I2=>⟨w,H',I2,rp,q⟩) hs
def N6 (K:Frag) (td ty tv:TE):TS:=λD U H=>tv U H λv H1=>td U H1 λx H2=>ty U H2 λy H3=>(∃a H4,x=.ref a/\dD H3 a y v H4/\D.nx U H4) \/
 ∃a b k its H4,x=.ref a/\y=.ref b/\fL H3 a H4 its/\gw K H4 its/\bg K H4 b (k.map kV)/\its.length<sizeLine/\∀u,RelV v u->D.nx U (upd H4 a (dE a (storedH its k b u)))
def N7 {o i value:Expr}{pos pos':Pos}{td ty tv:TE}(hu:X.A.units+1<cLine) (ho:PE X o td) (hi:PE X i ty) (hv:PE X value tv) (hs:swapsWith value (some (.Subscript o i pos')) pos.line X.env=pure false) :
  PS X (.Assign [.Subscript o i pos'] value pos) (N6 X.K td ty tv):=by
 intro pins s U H D I h
 refine wpAny_Assign_Subscript (aU (hv pins s U H _ I h) λr s1 ⟨v,H1,I1,rv,q1⟩=>aU (ho pins s1 U H1 _ I1 q1) λu s2 ⟨x,H2,I2,rx,q2⟩=>aU (hi pins s2 U H2 _ I2 q2) λiv s3 ⟨y,H3,I3,ry,q3⟩=>?_) hs
 rcases q3 with ⟨a,H4,ex,g,q3⟩|⟨a,b,k,its,H4,ex,ey,t,ks,kb,l,q3⟩
 ·subst ex
  obtain rfl:u=Value.ref a:=rx
  exact tO hu I3 g ry rv λs4 I4=>⟨U,H4,I4,q3⟩
 ·subst ex ey
  obtain rfl:u=Value.ref a:=rx
  obtain rfl:iv=Value.ref b:=ry
  obtain ⟨I',e⟩:=t.inv I3
  exact N1 hu I' e ks kb l λs4 I4=>⟨U,_,I4,q3 r rv⟩
end
end L2
namespace Mi
open PySem L2 PySem.W PySem.Spec
section
variable {X:Cx}{Er:XK}{K:Frag}{mg:Ab}{ρ:Ae}{H:Hp}{st:ao}{pos pos':Pos}{o:Expr}
def N8:PV->Option Key
 | .int i=>some (.inl i)
 | .str z=>some (.inr z)
 | _=>none
def cH:List PV->Option (List Key)
 | []=>some []
 | x::r=>match N8 x,cH r with
  | some k,some l=>some (k::l)
  | _,_=>none
theorem qS:∀{xs:An}{vs:List V}{k:List Key},Rs K mg ρ H xs vs->cH xs=some k->vs=k.map kV
 | [],vs,k,r,h=>by cases h;cases r;rfl
 | x::xs,vs,k,r,h=>by
  obtain ⟨v,ws,rfl,h1,h2⟩:=r
  unfold cH at h
  split at h
  ·rename_i k0 l hk hl
   cases h
   rw [qS h2 hl,yQ]
   congr 1
   cases x with
   | int i=>cases hk;exact h1
   | str z=>cases hk;exact h1
   | _=>cases hk
  ·cases h
def cg:Option SO->Option (List (List Key)×List PV)
 | some (.dit ks xs)=>some (ks,xs)
 | some (.dic [] [])=>some ([],[])
 | _=>none
def vt {n:Nat}{a:Addr}{ks:Ag}{xs:An}(s:bf K mg ρ H st) (ha:ρ[n]?=some a) (h:cg st[n]?=some (ks,xs)) :
  ∃H' its vs,fL H a H' its/\Ext ρ H ρ H'/\bf K mg ρ H' (st.set n (.dit ks xs))/\its.map (·.1)=ks/\gw K H' its/\Vals vs (its.map (·.2.2))/\Rs K mg ρ H' xs vs:=by
 unfold cg at h
 split at h
 ·rename_i cz cU e
  cases h
  obtain ⟨its,vs,h1,h2,h3,h4,h5⟩:=s.addr e ha
  refine ⟨H,its,vs,.inl ⟨rfl,h1⟩,Ext.refl,?_,h2,h3,h4,h5⟩
  have:st.set n (.dit ks xs)=st:=by
   obtain ⟨hl,he⟩:=yt.mp e
   rw [<-he,List.set_getElem_self]
  rw [this];exact s
 ·rename_i e
  cases h
  obtain ⟨vs,h1,h2,h3⟩:=s.addr e ha
  cases h2
  have ew:Ext ρ H ρ (upd H a (dE a [])):=Ext.write h1 rfl
  exact ⟨_,[],[],.inr ⟨h1,rfl,rfl⟩,ew,s.write ha ew ⟨[],[],yx,rfl,(λx hx=>nomatch hx),.nil,rfl⟩,rfl,(λx hx=>nomatch hx),.nil,rfl⟩
 ·cases h
def dn (k:List Key) (ks:Ag):Bool:=ks.any λz=>decide (z=k)
def Dm {k:List Key}{ks:Ag}:dn k ks=true↔k∈ks:=by
 unfold dn
 rw [List.any_eq_true]
 exact ⟨λ⟨x,h,e⟩=>(of_decide_eq_true e)▸h,λh=>⟨k,h,il rfl⟩⟩
theorem vv {k:List Key}:∀{its:List (List Key×Addr×Value)},(atKey its k).isSome=dn k (its.map (·.1))
 | []=>rfl
 | x::r=>by
  have ih:=vv (k:=k) (its:=r)
  unfold atKey at ih ⊢
  rw [List.find?_cons,yQ,show dn k (x.1::r.map (·.1))=(decide (x.1=k)||dn k (r.map (·.1))) from rfl]
  by_cases h:x.1=k
  ·rw [il h];rfl
  ·rw [jR h];exact ih
def gy {α:Type}(k:List Key):List (List Key)->List α->Option α
 | z::zs,x::xs=>if z=k then some x else gy k zs xs
 | _,_=>none
theorem Dp {k:List Key}{q:PV}:∀{its:List (List Key×Addr×Value)}{vs:List V}{xs:An},Vals vs (its.map (·.2.2))->Rs K mg ρ H xs vs->gy k (its.map (·.1)) xs=some q->∃p v,atKey its k=some p/\RelV v p.2/\R K mg ρ H q v
 | [],_,xs,_,_,h=>by cases xs<;>cases h
 | x::r,_,[],hv,hr,h=>by cases h
 | x::r,vs,y::ys,hv,hr,h=>by
  obtain ⟨v,ws,rfl,h1,h2⟩:=hr
  rw [yQ] at hv
  cases hv with
  | cons g t =>
   rw [yQ] at h
   unfold gy at h
   unfold atKey
   rw [List.find?_cons]
   by_cases e:x.1=k
   ·rw [zu e] at h
    cases h
    rw [il e]
    exact ⟨x.2,v,rfl,g,h1⟩
   ·rw [zF e] at h
    obtain ⟨p,v',a1,a2,a3⟩:=Dp t h2 h
    rw [jR e]
    exact ⟨p,v',a1,a2,a3⟩
def cu (old:Am) (neg:Bool) (x y:PV):Mo PV:=λst=>match x,y with
 | .tup zs,.ref n=>match cH zs,cg st[n]? with
  | some k,some (ks,xs)=>.ok (.bl (neg.xor (dn k ks))) (st.set n (.dit ks xs))
  | _,_=>old x y st
 | _,_=>old x y st
def N9 {old:Am}{neg:Bool}{x y:PV}:cu old neg x y st=old x y st\/∃zs n k ks xs,x=.tup zs/\y=.ref n/\cH zs=some k/\cg st[n]?=some (ks,xs)/\cu old neg x y st=.ok (.bl (neg.xor (dn k ks))) (st.set n (.dit ks xs)):=by
 unfold cu
 split
 ·rename_i zs n
  cases h1:cH zs with
  | none=>exact .inl rfl
  | some k =>
   cases h2:cg st[n]? with
   | none=>exact .inl rfl
   | some p=>exact .inr ⟨zs,n,k,p.1,p.2,rfl,rfl,h1,h2,rfl⟩
 ·exact .inl rfl
def Dq {r:R2}{old:Am}{neg:Bool}(m:dh K mg r old):dh K mg (λx y H Q=>r x y H Q\/vq K neg x y H Q) (cu old neg):=by
 intro ρ H st x y v w Q E s rx ry h
 rcases N9 (old:=old) (neg:=neg) (x:=x) (y:=y) (st:=st) with e|⟨zs,n,k,ks,xs,rfl,rfl,h1,h2,e⟩
 ·rw [e] at h;exact .inl (m ρ H st x y v w Q E s rx ry h)
 ·rw [e] at h
  obtain ⟨b,us,rfl,hb,ru⟩:=rx
  obtain ⟨a,rfl,ha⟩:=ry
  obtain ⟨H',its,vs,t,ex,s',hk,hq,hv,hr⟩:=vt s ha h2
  have:=qS ru h1
  subst this
  refine .inr ⟨a,b,k,its,H',rfl,rfl,t,hq,ex.sqT hb,?_⟩
  rw [vv,hk]
  exact h ρ H' ex s' _ rfl
def ba.or' {f:Value->Value->Sem Value}{r r':R2}(a:ba X f r) (b:ba X f r'):ba X f (λx y H Q=>r x y H Q\/r' x y H Q):=by
 intro pins s U H x y v u Q I rx ry h
 rcases h with h|h
 ·exact a pins s U H x y v u Q I rx ry h
 ·exact b pins s U H x y v u Q I rx ry h
def N_ {old:Am}(hu:X.A.units+200<cLine) (c:bD X .In old):bD X .In (cu old false):=by
 obtain ⟨r,h1,h2⟩:=c
 exact ⟨_,ba.or' h1 (N2 hu),Dq h2⟩
def Oa {old:Am}(hu:X.A.units+200<cLine) (c:bD X .NotIn old):bD X .NotIn (cu old true):=by
 obtain ⟨r,h1,h2⟩:=c
 exact ⟨_,ba.or' h1 (N3 hu),Dq h2⟩
def aS (old:Am) (x y:PV):Mo PV:=λst=>match x,y with
 | .ref n,.tup zs=>match cH zs,cg st[n]? with
  | some k,some (ks,xs)=>bP (gy k ks xs) (st.set n (.dit ks xs))
  | _,_=>old x y st
 | _,_=>old x y st
def Ob {old:Am}{x y:PV}:aS old x y st=old x y st\/∃zs n k ks xs,y=.tup zs/\x=.ref n/\cH zs=some k/\cg st[n]?=some (ks,xs)/\aS old x y st=bP (gy k ks xs) (st.set n (.dit ks xs)):=by
 unfold aS
 split
 ·rename_i n zs
  cases h1:cH zs with
  | none=>exact .inl rfl
  | some k =>
   cases h2:cg st[n]? with
   | none=>exact .inl rfl
   | some p=>exact .inr ⟨zs,n,k,p.1,p.2,rfl,rfl,h1,h2,rfl⟩
 ·exact .inl rfl
def yN {old:Am}(hu:X.A.units+200<cLine) (c:iK X old):iK X (aS old):=by
 obtain ⟨r,h1,h2⟩:=c
 refine ⟨_,h1.or (N5 (by omega)),fun ρ H st x y v w Q E s rx ry h=>?_⟩
 rcases Ob (old:=old) (x:=x) (y:=y) (st:=st) with e|⟨zs,n,k,ks,xs,rfl,rfl,k1,k2,e⟩
 ·rw [e] at h;exact .inl (h2 ρ H st x y v w Q E s rx ry h)
 ·rw [e] at h
  obtain ⟨a,rfl,ha⟩:=rx
  obtain ⟨b,us,rfl,hb,ru⟩:=ry
  obtain ⟨H',its,vs,t,ex,s',hk,hq,hv,hr⟩:=vt s ha k2
  have:=qS ru k1
  subst this
  cases hl:gy k ks xs with
  | none=>rw [hl] at h;exact h.elim
  | some q =>
   rw [hl] at h
   rw [<-hk] at hl
   obtain ⟨p,v,a1,a2,a3⟩:=Dp hv hr hl
   exact .inr ⟨a,b,k,its,H',p,v,rfl,rfl,t,hq,ex.sqT hb,a1,a2,h ρ H' ex s' _ a3⟩
end
section
variable {X:Cx}{Er:XK}{K:Frag}{mg:Ab}{ρ:Ae}{H:Hp}{st:ao}{pos pos':Pos}{o:Expr}
def lh {α:Type}(z:List Key) (x:α):List (List Key)->List α->List α
 | k::ks,y::ys=>(if k=z then x else y)::lh z x ks ys
 | _,ys=>ys
def wK (z:List Key) (x:PV) (ks:Ag) (xs:An):List (List Key)×List PV:=if dn z ks=true then (ks,lh z x ks xs) else (ks++[z],xs++[x])
def vw {k:List Key}{u:Value}(x:List Key×Addr×Value):(PySem.putAt k u x).1=x.1/\(PySem.putAt k u x).2.1=x.2.1:=by
 unfold PySem.putAt
 split<;>exact ⟨rfl,rfl⟩
theorem Dr {k:List Key}{u:Value}{x:PV}{v:V}(rx:R K mg ρ H x v) (ru:RelV v u):∀{its:List (List Key×Addr×Value)}{vs:List V}{xs:An},Vals vs (its.map (·.2.2))->Rs K mg ρ H xs vs ->
  ∃ws,Vals ws ((its.map (PySem.putAt k u)).map (·.2.2))/\Rs K mg ρ H (lh k x (its.map (·.1)) xs) ws
 | [],vs,xs,hv,hr=>by
  rw [List.map_nil] at hv
  cases hv
  cases xs with
  | nil=>exact ⟨[],.nil,rfl⟩
  | cons y ys=>obtain ⟨_,_,z,_⟩:=hr;cases z
 | p::r,vs,[],hv,hr=>by
  cases hr
  rw [yQ] at hv
  cases hv
 | p::r,vs,y::ys,hv,hr=>by
  obtain ⟨w,ws,rfl,h1,h2⟩:=hr
  rw [yQ] at hv
  cases hv with
  | cons g t =>
   obtain ⟨zs,a1,a2⟩:=Dr rx ru t h2
   by_cases e:p.1=k
   ·refine ⟨v::zs,?_,v,zs,rfl,?_,a2⟩
    ·rw [yQ,yQ]
     refine .cons ?_ a1
     unfold PySem.putAt;rw [zu e];exact ru
    ·rw [zu e];exact rx
   ·refine ⟨w::zs,?_,w,zs,rfl,?_,a2⟩
    ·rw [yQ,yQ]
     refine .cons ?_ a1
     unfold PySem.putAt;rw [zF e];exact g
    ·rw [zF e];exact h1
def Oc {k:List Key}{u:Value}{x:PV}{v:V}{b:Addr}{its:List (List Key×Addr×Value)}{vs:List V}{xs:An}(rx:R K mg ρ H x v) (ru:RelV v u) (hq:gw K H its) (hb:bg K H b (k.map kV)) (hv:Vals vs (its.map (·.2.2))) (hr:Rs K mg ρ H xs vs) :
  ∃ws,(storedH its k b u).map (·.1)=(wK k x (its.map (·.1)) xs).1/\gw K H (storedH its k b u)/\Vals ws ((storedH its k b u).map (·.2.2))/\Rs K mg ρ H (wK k x (its.map (·.1)) xs).2 ws:=by
 unfold storedH wK
 rw [vv]
 by_cases hc:dn k (its.map (·.1))=true
 ·rw [zu hc,zu hc]
  obtain ⟨ws,a1,a2⟩:=Dr (k:=k) rx ru hv hr
  refine ⟨ws,?_,λy hy=>?_,a1,a2⟩
  ·rw [List.map_map]
   exact List.map_congr_left λy _=>(vw y).1
  ·obtain ⟨z,hz,rfl⟩:=wm.mp hy
   rw [(vw z).1,(vw z).2]
   exact hq z hz
 ·rw [zF hc,zF hc]
  refine ⟨vs++[v],by simp,λy hy=>?_,?_,hr.append ⟨v,[],rfl,rx,rfl⟩⟩
  ·rcases m8.mp hy with h|h
   ·exact hq y h
   ·obtain rfl:=List.mem_singleton.mp h;exact hb
  ·rw [lW]
   exact hv.append (.cons ru .nil)
def ll (z x o:PV):Mo Unit:=λst=>match z,o with
 | .tup zs,.ref n=>match cH zs,cg st[n]? with
  | some k,some (ks,xs)=>if ks.length<lim then .ok () (st.set n (.dit (wK k x ks xs).1 (wK k x ks xs).2)) else .stuck
  | _,_=>.stuck
 | _,_=>jB z x o st
def Od {z x o:PV}:ll z x o st=jB z x o st\/ll z x o st=.stuck\/∃zs n k ks xs,z=.tup zs/\o=.ref n/\cH zs=some k/\cg st[n]?=some (ks,xs)/\ks.length<lim/\ll z x o st=.ok () (st.set n (.dit (wK k x ks xs).1 (wK k x ks xs).2)):=by
 unfold ll
 split
 ·rename_i zs n
  cases h1:cH zs with
  | none=>exact .inr (.inl rfl)
  | some k =>
   cases h2:cg st[n]? with
   | none=>exact .inr (.inl rfl)
   | some p =>
    by_cases hc:p.1.length<lim
    ·exact .inr (.inr ⟨zs,n,k,p.1,p.2,rfl,rfl,h1,h2,hc,zu hc⟩)
    ·exact .inr (.inl (zF hc))
 ·exact .inl rfl
def iU (fo fi fv:Ai):Aj:=λenv st=>(fv env st).bind λx ae=>(fo env ae).bind λo av=>(fi env av).bind λz a_=>(ll z x o a_).bind λ_ dN=>.ok (.nx env) dN
theorem Oe {env:zc}{U:L2.St}{D:Ends}{zz x y:PV}{u v w:V}(s3:bf K mg ρ H st) (re:bj K mg ρ H env U) (rv:R K mg ρ H x v) (c9:R K mg ρ H y w) (ru:R K mg ρ H zz u)
  (h3:Out K mg ρ H ((jB zz x y st).bind λ_ dN=>.ok (.nx env) dN) (gS K mg D) Er):∃a H4,w=.ref a/\dD H a u v H4/\D.nx U H4:=by
 cases y with
 | ref n =>
  cases zz with
  | str z =>
   cases hn:st[n]? with
   | none=>simp only [jB,yW,hn] at h3;exact h3.elim
   | some so =>
    cases so with
    | dic ks xs =>
     simp only [jB,yW,hn] at h3
     by_cases hc:ks.length<lim
     ·rw [zu hc] at h3
      obtain ⟨a,vs,e4,ha,k1,k2,k3⟩:=R.refD s3 c9 hn
      subst e4
      cases ru
      obtain ⟨ws,q1,q2,q3⟩:=uT (z:=z) rv k3 k2
      have hlen:(kz ks vs).length<sizeLine:=by
       have:(kz ks vs).length=ks.length:=by simp [kz,k3]
       rw [this,sizeLine_eq]
       have:ks.length<1000000:=hc
       omega
      have g:=dD.k (k:=Sum.inr z) (v:=v) k1 hlen
      have ew:Ext ρ H ρ (upd H a (.dK (L2.putK (kz ks vs) (Sum.inr z) v))):=Ext.write k1 rfl
      exact ⟨a,_,rfl,g,h3 ρ _ ew (s3.write ha ew ⟨ws,by rw [yx,q1],Rs.ext ew _ q2,q3⟩) U (re.ext ew)⟩
     ·rw [zF hc] at h3;exact h3.elim
    | _=>simp only [jB,yW,hn] at h3;exact h3.elim
  | _=>exact h3.elim
 | _=>exact h3.elim
theorem zc4 {i value:Expr}{fo fi fv:Ai}(hu:X.A.units+200<cLine) (ho:ME X Er o fo) (hi:ME X Er i fi) (hv:ME X Er value fv) (hs:swapsWith value (some (.Subscript o i pos')) pos.line X.env=pure false:=by rfl):MS X Er (.Assign [.Subscript o i pos'] value pos) (iU fo fi fv) :=
 PS.weak (N7 (by omega) ho hi hv hs) λD U H ⟨env,st,ρ,re,rs,h⟩=>⟨env,st,ρ,re,rs,h.then λag H1 x ae e1 s1 h1 v rv=>⟨env,ae,ag,re.ext e1,s1,h1.then λam H2 y av e2 s2 h2 w rw=>⟨env,av,am,(re.ext e1).ext e2,s2,h2.then λal H3 zz a_ e3 s3 h3 u ru=>by
  have Ds:=((re.ext e1).ext e2).ext e3
  have Dt:=R.ext e3 x (R.ext e2 x rv)
  have Du:=R.ext e3 _ rw
  rcases Od (z:=zz) (x:=x) (o:=y) (st:=a_) with e|e|⟨zs,n,k,ks,xs,rfl,rfl,k1,k2,hc,e⟩
  ·rw [e] at h3;exact .inl (Oe s3 Ds Dt Du ru h3)
  ·rw [e] at h3;exact h3.elim
  ·rw [e] at h3
   obtain ⟨b,us,rfl,hb,Of⟩:=ru
   obtain ⟨a,rfl,ha⟩:=Du
   obtain ⟨H',its,vs,t,ex,s',hk,hq,Og,hr⟩:=vt s3 ha k2
   have:=qS Of k1
   subst this
   have hl:its.length<sizeLine:=by
    have h1:its.length=ks.length:=by rw [<-hk,jZ]
    have h2:ks.length<1000000:=hc
    rw [h1,sizeLine_eq];omega
   refine .inr ⟨a,b,k,its,H',rfl,rfl,t,hq,ex.sqT hb,hl,λuu Oh=>?_⟩
   subst hk
   have ea:H' a=some (dE a its):=by
    rcases t with ⟨rfl,e⟩|⟨_,rfl,rfl⟩
    ·exact e
    ·exact yx
   have ew:Ext al H' al (upd H' a (dE a (storedH its k b uu))):=Ext.write ea (Ka X.prog X.w)
   obtain ⟨ws,q1,q2,q3,q4⟩:=Oc (k:=k) (b:=b) (R.ext ex x Dt) Oh hq (ex.sqT hb) Og hr
   have sw:=s'.write (so:=.dit (wK k x (its.map (·.1)) xs).1 (wK k x (its.map (·.1)) xs).2) ha ew ⟨_,ws,yx,q1,λy hy=>ew.sqT (q2 y hy),q3,Rs.ext ew _ q4⟩
   rw [List.set_set] at sw
   exact h3 al _ (ex.trans ew) sw U ((Ds.ext ex).ext ew)⟩⟩⟩
end
section
variable {X:Cx}{K:Frag}{mg:Ab}{ρ:Ae}{H:Hp}{st:ao}
end
end Mi
namespace L2
open PySem PySem.Spec PyProof.Rows PySem.W
def se (K:Frag) (a:Addr):It :=
 ⟨λi H=>∃xs x,bg K H a xs/\xs[i]?=some x,
  λi H v H'=>∃T x,H T=none/\v=.ref T/\H'=upd H T (.tup [.int i,x])/\∀xs,bg K H a xs->xs[i]?=some x,
  λi H=>∃xs,bg K H a xs/\xs.length<=i⟩
def sf (e it a:Addr) (k:Nat) (h:Heap):Prop:=(∃old,IsEnum h e it k old)/\IsTupIter h it a k
def Oi {prog:Program}{w:World}{A:Around}{it t:Addr}{xs:Array Value}(ne:t≠it) (hh:A.handled=none):Draws prog w A it [it,t] xs.size (λi x=>xs[i]?=some x) (n_ it t xs) where
 live:=λi h q=>let ⟨⟨o,ho,_⟩,_⟩:=q;⟨o,ho⟩
 frame:=λi h h' q k=>(wQ (prog:=prog) (w:=w) ne).at_ q (k it (by simp)) (k t (by simp))
 item:=λi s Q E hi q hQ=>(wQ ne).item q (Array.getElem?_eq_getElem hi) λh' q' sb=>hQ _ h' s.toks (Array.getElem?_eq_getElem hi) q' sb
 done:=λs Q E q hE=>(wQ ne).stop hh q (Array.getElem?_eq_none (yd _)) hE
theorem Oj {prog:Program}{w:World}{A:Around}{E:Aa}{s:Shared}{e it t:Addr}{i:Nat}{xs:Array Value}{old:Value}{Q:Option Value->Shared->Prop}(ne:t≠it) (hh:A.handled=none)
  (he:IsEnum s.heap e it i old) (hit:IsTupIter s.heap it t i) (p:IsTup s.heap t xs) (hi:xs.size<=i) (hQ:∀h',Heap.ExtBut it s.heap h'->Q none { s with heap:=h' }):wpAny (model prog w) A (pyNext (.ref e)) Q E s:=by
 have D:Draws prog w A.in1 it [it,t] i (λj x=>xs[j]?=some x/\j<i/\False) (λj h=>j=i/\n_ it t xs j h):=⟨λj h q=>let ⟨_,⟨o,ho,_⟩,_⟩:=q;⟨o,ho⟩,λj h h' q k=>⟨q.1,(wQ (prog:=prog) (w:=w) ne).at_ q.2 (k it (by simp)) (k t (by simp))⟩,
  λj s Q E hj q _=>absurd q.1 (by omega),λs Q E q hE=>(wQ ne).stop hh q.2 (Array.getElem?_eq_none hi) hE⟩
 exact wpAny_pyNext_enum_endD D he ⟨rfl,hit,p⟩ hQ
def Ol {P:Program}{w:World}{K:Frag}{elts:List Expr}{kt:Nat}{pos:Pos}{e it a:Addr}(ne:e≠it):Turn P w K (.Tuple elts kt pos) (se K a) [e,it] e (sf e it a) where
 mem:=by simp
 obj:=λi h st c hc=>by
  obtain ⟨⟨old,he⟩,⟨o1,e1,_,d1⟩⟩:=st
  simp only [yE,List.not_mem_nil,wP] at hc
  rcases hc with q|q<;>rw [q]
  ·exact ⟨_,he,λv z=>by cases z⟩
  ·exact ⟨_,e1,λv z=>by rw [d1] at z;cases z⟩
 keep:=λi h h' st k=>by
  obtain ⟨⟨old,he⟩,⟨o1,e1,r1⟩⟩:=st
  exact ⟨⟨old,k e (by simp) _ he⟩,⟨o1,k it (by simp) _ e1,r1⟩⟩
 item:=by
  intro X hP hw hK hc i pins s U H E I hf st hg
  subst hP hw hK
  obtain ⟨xs,x,hq,hx⟩:=hg
  obtain ⟨⟨old,he⟩,hit⟩:=st
  obtain ⟨its,rv,p,hz⟩:=I.tuple hq
  obtain ⟨u,hu,ru⟩:=rv.get hx
  have n1:∀c∈[e,it],a≠c:=λc h=>mq I (hf c h) hq
  have na:a≠it:=n1 it (by simp)
  have Om:a≠e:=n1 e (by simp)
  have bu:i<its.toArray.size:=by have:=(yt.mp hu).1;simpa using this
  refine wpAny_pyNext_enum_itemD (D:=Oi (A:=X.A.in1) na (I.ok.hd hc)) he ⟨hit,p⟩ bu ne (by simp;exact ⟨ne,λz=>Om z.symm⟩) λx1 h1 tk Oo eo oG pT hsz kk=>⟨_,rfl,?_⟩
  have xu:x1=u:=by
   have h0:its.toArray[i]?=some x1:=Oo
   rw [List.getElem?_toArray,hu] at h0
   exact (Option.some.inj h0).symm
  subst xu
  refine wpAny_letOwnedTupleGo_enum (s:={ s with heap:=h1,toks:=tk+1 }) eo λh2 e2 sb=>?_
  have fr:H s.heap.objs.size=none:=I.hok.fresh (yd _)
  have up:∀c o,c≠e->h1.get? c=some o->h2.get? c=some o:=λc o n q=>sb.extBut _ _ n q
  have nz:s.heap.objs.size≠e:=Nat.ne_of_gt (yf he)
  have k2:∀c o,c∉[e,it]->s.heap.get? c=some o->h2.get? c=some o:=λc o nc q=>up c o (λz=>nc (by simp [z])) (kk c o (λz=>nc (by simp [z])) (λz=>nc (by simp [z])) q)
  refine ⟨.ref s.heap.objs.size,upd H s.heap.objs.size (.tup [.int i,x]),?_,rfl,⟨s.heap.objs.size,x,fr,rfl,rfl,λys hy=>by rw [I.tuple_inj hy hq];exact hx⟩,?_,λc cI=>?_⟩
  ·exact Inv.turnN (s:=s) (h':=h2) (t':=tk+1) I hf k2 (yd _) ⟨show 2<=sizeLine by decide,[.int i tk,x1],.cons ⟨_,rfl⟩ (.cons ru .nil),_,up _ _ nz pT,rfl,_,rfl⟩
  ·refine ⟨⟨x1,by rw [show ((i+1:Nat):Int)=(i:Int)+1 from rfl];exact e2⟩,let ⟨⟨o,q,r⟩,_⟩:=oG;⟨o,up _ _ ne.symm q,r⟩⟩
  ·have lt:∃o,s.heap.get? c=some o:=by
    simp only [yE,List.not_mem_nil,wP] at cI
    rcases cI with q|q<;>rw [q]
    ·exact ⟨_,he⟩
    ·exact let ⟨o,q,_⟩:=hit;⟨o,q⟩
   obtain ⟨o,q⟩:=lt
   have z:c≠s.heap.objs.size:=yz (yf q)
   rw [zW z]
   exact (hf c cI).1
 done:=by
  intro X hP hw hK hc i pins s U H E I hf st hg
  subst hP hw hK
  obtain ⟨xs,hq,hx⟩:=hg
  obtain ⟨⟨old,he⟩,hit⟩:=st
  obtain ⟨its,rv,p,hz⟩:=I.tuple hq
  have hl:=rv.length
  have n1:∀c∈[e,it],a≠c:=λc h=>mq I (hf c h) hq
  refine Oj (n1 it (by simp)) (I.ok.hd hc) he hit p (by simp;omega) λh' eb=>⟨rfl,?_⟩
  exact Inv.turnL (ch:=[e,it]) (t':=s.toks) I hf λc o nc q=>eb c o (λz=>nc (by simp [z])) q
 self:=λ_ _ _ _ _ st h=>by
  obtain ⟨⟨old,he⟩,_⟩:=st
  exact wpAny_pyIter_enum he h
def Oq (K:Frag) (ta:TA):TI:=λU H R=>ta U H λvs H1=>∃a,vs=[.ref a]/\(∃xs,bg K H1 a xs)/\R (se K a) H1
abbrev qT (h:Heap) (a:Addr):Heap:=h.push { cls:=.type "tuple_iterator", data:=.fields #[.ref a,.int 0 0] }
abbrev mQ (h:Heap) (a:Addr):Heap:=(qT h a).push { cls:=.type "enumerate", data:=.fields #[.none,.bool false,.ref h.objs.size,rawInt 0,.none,.none] }
def Ot (a:Addr) (xs:Array Value) :
  Meets (Builtin.«enumerate.__new__» ⟨[.type "enumerate", .ref a],[]⟩) (λ_ R s=>IsTup s.heap a xs/\R (.ok (.ret (.ref (qT s.heap a).objs.size))) { s with heap:=mQ s.heap a }) :=
 .of_wp λprog w A R s h=>by
  obtain ⟨hp,g,d,tk,os⟩:=s
  obtain ⟨h1,h⟩:=h
  have Bz:=sub_enumerate
  have H1:IsTup (Shared.heap ⟨hp,g,d,tk,os⟩) a xs:=h1
  obtain ⟨⟨cl,dd,dt,sl⟩,ho,hcl,n,hd⟩:=id H1
  replace hcl:cl=.type "tuple" := hcl
  replace hd:dt=.seq xs n:=hd
  subst hcl hd
  wp_walk using AutoSeq1.wpAny_loadPart' ho
  refine wpAny_stack_any λst=>zK ?_
  split
  ·rename_i c _ _ _ _ _
   cases (c==Value.type "enumerate")
   all_goals (wp_walk using AutoSeq1.wpAny_loadPart' ho,iter_tuple H1;exact ⟨_,rfl,h⟩)
  ·wp_walk using AutoSeq1.wpAny_loadPart' ho,iter_tuple H1
   exact ⟨_,rfl,h⟩
def Ou {prog:Program}{w:World}{A:Around}{E:Aa}{s:Shared}{a:Addr}{xs:Array Value}{Q:Aa}(h1:IsTup s.heap a xs)
  (h:sf (s.heap.objs.size+1) s.heap.objs.size a 0 (mQ s.heap a)->Q (.ref (s.heap.objs.size+1)) { s with heap:=mQ s.heap a }) :
  wpAny (model prog w) A (call (.type "enumerate") [.ref a]) Q E s:=by
 refine callType_new F.called_enumerate (by decide) (F.typeCall_enumerate_1 _) (F.newCall_enumerate_1 _) (λobj=>F.args_object_init_2 obj _) F.entry_enumerate_new (Ot a xs) ⟨h1,?_⟩
 have z1:(qT s.heap a).objs.size=s.heap.objs.size+1:=Heap.size_push ..
 have g2:(mQ s.heap a).get? (qT s.heap a).objs.size=some _:=yP _ rfl
 have g1:(mQ s.heap a).get? s.heap.objs.size=some _:=zZ _ (yP _ rfl)
 show _/\_
 rw [z1] at g2
 rw [z1]
 exact ⟨⟨_,g2,rfl⟩,h ⟨⟨_,g2⟩,⟨_,g1,rfl,rfl⟩⟩⟩
theorem Ov {X:Cx} {elts:List Expr} {kt:Nat} {tp:Pos} {x:Expr} {ta:TA} {p pos:Pos} (hg:Gl X "enumerate") (hm:X.mg "enumerate" = none) (ha:PA X [x] ta) (hs:starEach [x] X.env=[(false,eval x X.env)]:=by rfl) :
  PI X (.Tuple elts kt tp) (.Call (.Name "enumerate" p) [x] [] pos) (Oq X.K ta):=by
 intro pins s U H R I h
 refine Call_ (iu I hg hm Cw (PyProof.Rows.callWith_type1 (aU (ha pos pins s U H _ I h) λus s1 ⟨vs,H1,I1,r1,q1⟩=>?_) hs rfl))
 obtain ⟨a,e,⟨xs,hq⟩,q⟩:=q1
 subst e
 obtain ⟨u,rfl,ru⟩:=r1.one
 obtain rfl:u=Value.ref a:=ru
 obtain ⟨its,_,p1,_⟩:=I1.tuple hq
 have kk:∀b o,s1.heap.get? b=some o->(mQ s1.heap a).get? b=some o:=λb o q=>zZ _ (zZ _ q)
 refine Ou p1 λest=>wpAny_pyIter_enum est.1.choose_spec ?_
 have ne:∀(n:Nat),n+1≠n:=λn z=>by omega
 refine ⟨_,[s1.heap.objs.size+1,s1.heap.objs.size],_,_,H1,rfl,I1.kept (t':=s1.toks) kk,Ol (ne _),est,λc hc=>?_,q⟩
 have le:s1.heap.objs.size<=c:=by
  simp only [yE,List.not_mem_nil,wP] at hc
  rcases hc with q|q<;>rw [q]<;>first|exact yd _|exact Nat.le_add_right _ _
 exact I1.fpOk le (I1.hok.fresh le)
end L2
namespace Mi
open PySem L2 PySem.W PySem.Spec
section
variable {X:Cx}{Er:XK}{fs:Ah}{pos:Pos}
def dA (ft:Ak) (fe:Ai) (env:zc):Nat->List PV->Al
 | _,[],ys,st=>.ok (.ref st.length) (st++[.lst ys])
 | i,x::r,ys,st=>(bE (ft (some (.int i)::some x::env) st)).bind λb ae=>if b=true then (bE (fe (some (.int i)::some x::env) ae)).bind λy av=>dA ft fe env (i+1) r (ys++[y]) av
   else dA ft fe env (i+1) r ys ae
def qU:List PV->Mo (An)
 | [.tup xs],st=>if xs.length<=lim then .ok xs st else .stuck
 | _,_=>.stuck
def o9 (fs:Ah) (ft:Ak) (fe:Ai):Ai:=λenv st=>(fs env st).bind λvs ae=>(qU vs ae).bind λxs ae=>dA ft fe env 0 xs [] ae
def Ow {α:Type}{K:Frag}{mg:Ab}{ρ:Ae}{H:Hp}{st:ao}{vs:An}{k:List PV->Mo α}{good:List Addr->Hp->α->ao->Prop}{E:XK}(h:Out K mg ρ H ((qU vs st).bind k) good E):∃xs,vs=[.tup xs]/\xs.length<=lim/\Out K mg ρ H (k xs st) good E:=by
 cases vs with
 | nil=>exact h.elim
 | cons v r =>
  cases r with
  | cons _ _=>cases v<;>exact h.elim
  | nil =>
   cases v with
   | tup xs =>
    by_cases hl:xs.length<=lim
    ·refine ⟨xs,rfl,hl,?_⟩
     have e:qU [.tup xs] st=.ok xs st:=zu hl
     rw [e] at h
     exact h
    ·have e:qU [.tup xs] st=.stuck:=zF hl
     rw [e] at h
     exact h.elim
   | _=>exact h.elim
theorem Ox {elt e c:Expr} {x y:Str} {kt:Nat} {px py tp p ip:Pos} {scope:Scope} {ft:Ak} {fe:Ai} {N:Ad} (hc:X.calm=true) (S:c5 X.env.scope scope [x,y]) (eN:X.N=N) (cm:((".0" : Str)::([x,y]++N)).Nodup)
  (hm:X.mg "enumerate" = none) (ha:MA X Er [e] fs) (ku:∀cl C af ah fp,MT (eB X scope cl [x,y] C af ah fp (λ_ _=>False)) XN c ft) (he:∀cl C af ah fp,ME (eB X scope cl [x,y] C af ah fp (λ_ _=>False)) XN elt fe)
  (hx:scope.names.lookup x=some .local:=by rfl) (hy:scope.names.lookup y=some .local:=by rfl) (uY:Gl X "enumerate" := by rfl) (bw:starEach [e] X.env=[(false,eval e X.env)]:=by rfl)
  (hs:∀v,foldedSetIterable (.Call (.Name "enumerate" p) [e] [] ip) X.env v=pure v:=by intro _;rfl) :
  ME X Er (.ListComp elt [⟨.Tuple [.Name x px,.Name y py] kt tp,.Call (.Name "enumerate" p) [e] [] ip,[c],0⟩] scope pos) (o9 fs ft fe):=by
 have hN:([x,y]++X.N).Nodup:=by rw [eN];exact (jQ.mp cm).2
 have gh:∀cl C af ah fp E,PG (eB X scope cl [x,y] C af ah fp E) (.Tuple [.Name x px,.Name y py] kt tp) (sC X.K 2 (nu (wb 0) (nu (wb 1) sy))):=λcl C af ah fp E=>sD (n:=2) hc
  (l_ (wB (X:=eB X scope cl [x,y] C af ah fp E) (i:=0) hN rfl (.inl (jO hx)) (.inr (jO hx)))
  (l_ (wB (X:=eB X scope cl [x,y] C af ah fp E) (i:=1) hN rfl (.inl (jO hy)) (.inr (jO hy))) sA))
 exact PE.weak (tI (te:=tM X.K X.mg XN fe) (tt:=mv X.K X.mg XN ft) hc S eN cm (Ov uY hm ha bw) gh (λcl C af ah fp=>A8 (ku cl C af ah fp)) (λcl C af ah fp=>he cl C af ah fp) hs) λU H Q ⟨env,st,ρ,re,rs,h⟩=>⟨env,st,ρ,re,rs,h.then λaq H0 vs dj e0 s0 h0 us ru=>by
  obtain ⟨xs,rfl,rW,h0⟩:=Ow h0
  obtain ⟨v,rfl,rv⟩:=ru.one
  obtain ⟨a,qL,rfl,Dv,Cy⟩:=rv
  refine ⟨a,rfl,⟨_,Dv⟩,?_⟩
  have ln:lim=1000000:=rfl
  refine ⟨λi m ys H=>m+i=lim+1/\i<=xs.length/\ys.length<=i/\∃ps st ρ,Rs X.K X.mg ρ H ps ys/\bf X.K X.mg ρ H st/\Ext aq H0 ρ H/\Out X.K X.mg ρ H (dA ft fe env i (xs.drop i) ps st) (gV X.K X.mg Q) Er,⟨lim+1,rfl,jc _,jc _,[],dj,aq,rfl,s0,Ext.refl,h0⟩,?_⟩
  rintro i m ys H ⟨hm,hi,hy,ps,st,ρ,cy,rs,ex,h⟩
  have hq:=ex.sqT Dv
  have hR:=Rs.ext ex _ Cy
  cases hx:xs[i]? with
  | none =>
   have hl:xs.length<=i:=lY.mp hx
   rw [lX hl] at h
   exact .inl ⟨⟨qL,hq,by rw [<-hR.len];exact hl⟩,yZ (by omega),λl hl=>Out.newList h rs cy hl⟩
  | some x =>
   have bu:i<xs.length:=(yt.mp hx).1
   have Oy:xs.drop i=x::xs.drop (i+1):=by
    rw [jP bu]
    congr 1
    exact (yt.mp hx).2
   rw [Oy] at h
   obtain ⟨v,hv,rv⟩:=hR.get hx
   refine .inr ⟨⟨qL,v,hq,hv⟩,yZ (by omega),λv' H' y=>?_⟩
   obtain ⟨T,x',hT,rfl,rfl,y⟩:=y
   have e2:=y qL hq
   rw [hv] at e2
   cases e2
   have bN:Ext ρ H ρ (upd H T (.tup [.int i,v])):=Ext.new hT
   refine ⟨T,[.int i,v],rfl,.inl (.inl yx),rfl,.int i,[v],rfl,v,[],rfl,rfl,[some (.int i),some v],rfl,rfl,?_⟩
   have gM:bj X.K X.mg ρ (upd H T (.tup [.int i,v])) (some (.int i)::some x::env) (some (.int i)::some v::U):=(((re.ext (e0.trans ex)).ext bN).cons (R.ext bN x rv)).cons rfl
   refine ⟨_,st,ρ,gM,rs.new hT,ju (Out.ext h bN) λal H3 b a_ e3 s3 h3=>?_⟩
   obtain ⟨m,rfl⟩:∃m',m=m'+1:=⟨m-1,by omega⟩
   cases b with
   | true =>
    refine ⟨_,a_,al,gM.ext e3,s3,ju h3 λaB H4 y dN e4 s4 h4 v4 r4=>⟨m,jS m,by omega,by omega,by simp;omega,ps++[y],dN,aB,Rs.snoc r4 (Rs.ext ((bN.trans e3).trans e4) ps cy),s4,((ex.trans bN).trans e3).trans e4,h4⟩⟩
   | false=>exact ⟨m,jS m,by omega,by omega,by omega,ps,a_,al,Rs.ext (bN.trans e3) ps cy,s3,(ex.trans bN).trans e3,h3⟩⟩
end
section
variable {X:Cx}{Er:XK}{pos:Pos}{ez:List Stmt}{gb:Aj}{fs:Ah}
end
section
variable {X:Cx}
end
end Mi
namespace L2
open PySem PySem.Spec PyProof.Rows PySem.W
section
variable {X:Cx}{e:Expr}{te td ty:TE}{tv:TX}
def Oz (z:Str) (te:TE):TE:=λU H Q=>te U H λv H1=>∃i:Int,v=.int i/\i.natAbs.log2<1920/\(z++(toString i:Str)).length<=sizeLine/\Q (.str (z++(toString i:Str))) H1
def qV (z:Str):Str.empty++z=z:=by
 show Str.mk (#[]++z.cps)=z
 simp
def OA {z:Str}{ck}{cp fp pos:Pos}(he:PE X e te) (hz:z.length<=sizeLine):PE X (.JoinedStr [.Constant (.str z) ck cp,.FormattedValue e (-1) none fp] pos) (Oz z te):=by
 intro pins s U H Q I h
 refine wpAny_JoinedStr (Calls.Constant_str ⟨z,_,rfl,?_,?_⟩)
 ·rw [qV];exact hz
 ·refine wpAny_FormattedValue_plain (aU (he pins _ U H _ (I.tok _) h) λu s1 ⟨v,H1,I1,r1,i,ev,hd,hl,q⟩=>?_)
  subst ev
  obtain ⟨t,rfl⟩:=r1
  refine wpAny_formatField_int hd ⟨_,_,rfl,?_,?_,?_⟩
  ·rw [qV];exact hl
  ·rw [qV];exact hl
  ·rw [qV];exact ⟨.str (z++(toString i:Str)),H1,(I1.tok _).tok _,⟨_,rfl⟩,q⟩
def OB (C:Addr) (sp:Sp) (tv:TX):TX:=λU H Q E=>tv U H (λv H1=>∀x dx,H1 x=none->H1 dx=none->dx≠x->sp [.ref x,v] (upd (upd H1 dx (.own x)) x (.ins C dx [])) (λw H2=>w=.non/\Q (.ref x) H2) Mi.XN) E
def OC {C f:Addr}{k:Nat}{fd:FuncData}{ps:Ad}{sp:Sp}{x:Str}{p pos:Pos}(M:Mk X.K C f) (F:bp X.prog X.w X.K X.mg X.base (bT X.prog X.w) k f fd ps sp) (hr:aW (k+1) X.A) (hg:Gl X x) (hm:X.mg x=some (.ref C)) (hb:Binds X.K fd ps []) (hv:PX X e tv)
  (bG:(x==("__debug__" : Str))=false:=by decide) (he:starEach [e] X.env=(false,eval e X.env)::starEach [] X.env:=by rfl) (br:(backTo pos (starEach [] X.env)).any (·.1)=false:=by rfl):PX X (.Call (.Name x p) [e] [] pos) (OB C sp tv):=by
 intro pins s U H Q E I h
 refine wpAny_Call_Name_kw (iq I hg hm ?_ bG)
 refine PySem.W.callWith_K (h₀:=X.base) I.ok.mod.kin M.kp ?_ he br
 rw [he]
 show wpAny _ _ (spliced ((false,eval e X.env)::backTo pos (starEach [] X.env))) _ _ s
 refine Calls.spliced_cons (yG (hv pins s U H _ E I h) (λu s1 ⟨v,H1,I1,r1,q1⟩=>?_) λ_ _ z=>z)
 refine Calls.spliced_nil ⟨I1.kIn,?_⟩
 exact yG (x9 (X:=X.nox) M F hr hb .nil (kM Mi.wW) (I1.wish _) (.cons r1 .nil) q1) (λ_ _ ⟨y,H2,I2,r2,q2⟩=>⟨y,H2,I2.unwish,r2,q2⟩) λ_ _ z=>z.elim
def OD (C:Addr) (j:Nat) (td ty:TE) (tv:TX) (tsu:TS):TS:=λD U H=>tv U H (λv H1=>td U H1 λx H2=>ty U H2 λy H3=>∃a H4,x=.ref a/\dD H3 a y v H4/\D.nx U H4)
 (λc d H1=>c=.ref C/\∀a,H1 a=none->tsu { nx:=λai H'=>D.nx (ai.set j none) H',rt:=D.rt } (U.set j (some (.ref a))) (upd H1 a (fF C d a)))
def OE {C:Addr}{j:Nat}{n cls:Str}{o i value:Expr}{tsu:TS}{b0:Stmt}{bt:List Stmt}{ap cp hp pos pos':Pos}(hu:X.A.units+1<cLine) (hN:X.N.Nodup) (hj:X.N[j]?=some n) (hn:X.env.scope.names.lookup n=some .local)
  (ho:PE X.nox o td) (hi:PE X.nox i ty) (hv:PX X value tv) (hg:Gl X cls) (hm:X.mg cls=some (.ref C)) (hC:eZ X.K C) (g7:∀a,bY (X.caught a) (b0::bt) tsu) (bw:X.stack=X.env::X.outer) (cK:X.env.frame=some X.env.locals)
  (hs:swapsWith value (some (.Subscript o i pos')) ap.line X.env=pure false:=by rfl) (bG:(cls==("__debug__" : Str))=false:=by decide) :
  PS X (.Try [.Assign [.Subscript o i pos'] value ap] [.ExceptHandler (some (.Name cls cp)) (some n) (b0::bt) hp] [] [] pos) (OD C j td ty tv tsu):=by
 intro pins s U H D I h
 rw [arm_exec_Try]
 refine zp (wpAny_standAt (wpAny_tryStmt_except (wpAny_execs_cons (wpAny_Assign_Subscript (yG (hv pins s U H _ _ I h) (λr s1 ⟨v,H1,I1,rv,q1⟩=>?_) (λu s1 ⟨a,C',d,H1,eu,I1,tV,ec,q⟩=>?_)) hs))))
 ·refine yG (ho pins s1 U H1 _ (I1.wish _) q1) (λu s2 ⟨x,H2,I2,rx,q2⟩=>?_) (λ_ _ z=>z.elim)
  refine yG (hi pins s2 U H2 _ I2 q2) (λiv s3 ⟨y,H3,I3,ry,a,H4,ex,g,q3⟩=>?_) (λ_ _ z=>z.elim)
  subst ex
  obtain rfl:u=Value.ref a:=rx
  exact tO hu I3.unwish g ry rv λs4 I4=>wpAny_execs_nil (wpAny_execs_nil ⟨U,H4,I4,q3⟩)
 subst eu
 cases ec
 refine tP I1 I.ok.frames bw cK tV λs2 T I2 x2 ne n6 oa oT=>nY I2 x2 ne n6 oa oT λs3 I3 x3 kL=>?_
 refine wpAny_handleBy_cons (codeAny_handlers_test ?_) (by intro q;cases q)
 refine iq (X:=X.caught a) (Inv.caught I3 a) hg hm ?_ bG
 obtain ⟨⟨nm,q',N,bs,bm,cj,sn,sub,ab,col,dd,k0,k1,k2,k3,k5,hl,ht,_⟩,_⟩:=hC
 have mm:=I3.kIn _ _ hl
 have bI:bm.contains (.type "BaseException")=true:=(tail_of_in I3.kIn ht).hasType (by decide)
 obtain ⟨oe,vs,he,fZ,_⟩:=id x3
 refine wpAny_excMatches_sub_self (h:=s3.heap) (g:=s3.gens) (d:=s3.drawn) (t:=s3.toks) (os:=s3.os) mm he fZ bI ?_
 refine codeAny_handlers_suite_as (nY I3 x3 ne kL oa oT λs4 I4 x4 JJ=>?_)
 have I5:=Inv.catch I4 oa x4
 refine kg I5 hN hj (.inl hn) (v:=.ref a) rfl (λs5 I6=>?_) (.inr hn)
 refine yG (g7 a pins s5 _ _ _ (Inv.caught I6 a) (q a oa.1)) (λf s6 z=>?_) λ_ _ z=>z.elim
 cases f with
 | next =>
  obtain ⟨ai,H',I7,q7⟩:=z
  exact tU (Inv.uncaught I.ok I7) hN hj hn λs7 I8=>⟨_,H',I8,q7⟩
 | brk=>obtain ⟨_,_,_,z⟩:=z;exact z.elim
 | cont=>obtain ⟨_,_,_,z⟩:=z;exact z.elim
 | ret u =>
  obtain ⟨v,ai,H',I7,r7,q7⟩:=z
  exact tU (Inv.uncaught I.ok I7) hN hj hn λs7 I8=>⟨v,_,H',I8,r7,q7⟩
end
end L2
namespace Mi
open PySem L2 PySem.W PySem.Spec
section
variable {X:Cx}{Er:XK}{e o i:Expr}{pos pos' p:Pos}{f fo fi fv:Ai}{k:Nat}{m:Al}
def vx (z:Str):PV->Mo PV
 | .int i,st=>if i.natAbs.log2<1920/\(z++(toString i:Str)).length<=1000 then .ok (.str (z++(toString i:Str))) st else .stuck
 | _,_=>.stuck
def zsm {z:Str}{ck}{cp fp:Pos}(he:ME X Er e f) (hz:z.length<=1000:=by decide):ME X Er (.JoinedStr [.Constant (.str z) ck cp,.FormattedValue e (-1) none fp] pos) (zX (vx z) f) :=
 PE.weak (OA he (y6 hz (by decide))) λU H Q ⟨env,st,ρ,re,rs,h⟩=>⟨env,st,ρ,re,rs,h.then λag H1 x ae e1 s1 h1 v rv=>by
  cases x with
  | int i =>
   obtain ⟨⟨h2,h3⟩,h1⟩:=Out.ifp h1
   exact ⟨i,rv,h2,y6 h3 (by decide),h1.now s1 _ rfl⟩
  | _=>exact h1.elim⟩
def w4 {es:List Expr} {fs:Ah} {cn:Str} (C:gK X.prog X.w X.K X.mg X.base cn k m) (hr:aW (k+1) X.A) (ht:jT X Er) (ha:MA X Er (e::es) fs) (hg:Gl X cn:=by rfl) (bG:(cn==("__debug__" : Str))=false:=by decide)
  (he:starEach (e::es) X.env=(false,eval e X.env)::starEach es X.env:=by rfl) (br:(backTo pos (starEach es X.env)).any (·.1)=false:=by rfl):ME X Er (.Call (.Name cn p) (e::es) [] pos) (zt (bJ cn m) fs):=eh C hr ht ha hg bG he br
def gz (cn:Str) (m:Al) (fv:Ai):Ai:=λenv st=>(fv env st).bind λy ae=>bE (bJ cn m [y] ae)
def OG {cn:Str} (C:gK X.prog X.w X.K X.mg X.base cn k m) (hr:aW (k+1) X.A) (hv:MX X e fv) (hg:Gl X cn:=by rfl) (bG:(cn==("__debug__" : Str))=false:=by decide)
  (he:starEach [e] X.env=(false,eval e X.env)::starEach [] X.env:=by rfl) (br:(backTo pos (starEach [] X.env)).any (·.1)=false:=by rfl):MX X (.Call (.Name cn p) [e] [] pos) (gz cn m fv):=by
 obtain ⟨C,f,fd,ps,hm,M,hb,F⟩:=C
 exact PX.weak (OC M F hr hg hm hb hv bG he br) λU H Q E ⟨env,st,ρ,re,rs,h⟩=>⟨env,st,ρ,re,rs,h.then λag H1 y ae e1 s1 h1 v rv x dx hx mF ne=>by
  refine BQ (f:=f) (ys:=[y]) (vs:=[v]) hm s1 ⟨v,[],rfl,rv,rfl⟩ ?_ x dx hx mF ne
  cases hr:bJ cn m [y] ae with
  | ok z av=>rw [hr] at h1;exact h1
  | err=>rw [hr] at h1;exact h1.elim
  | stuck=>rw [hr] at h1;exact h1.elim⟩
def mR (j:Nat) (cn:Str) (fo fi fv:Ai) (bt:Aj):Aj:=λenv st=>match fv env st with
 | .ok x ae=>(bE (fo env ae)).bind λo av=>(bE (fi env av)).bind λz a_=>(jB z x o a_).bind λ_ dN=>.ok (.nx env) dN
 | .err c ks xs ae=>if c=cn/\ks≠[] then (bE (bt (env.set j (some (.exo c ks xs))) ae)).bind (uX j) else .stuck
 | .stuck=>.stuck
def OH (j:Nat) {n cn:Str}{value:Expr}{gs:Aj}{b0:Stmt}{bt:List Stmt}{ap cp hp:Pos}(hu:X.A.units+200<cLine) (hC:∃C,X.mg cn=some (.ref C)/\eZ X.K C) (ho:ME X.nox E0 o fo) (hi:ME X.nox E0 i fi) (hv:MX X value fv) (g7:∀a,dW (X.caught a) E0 (b0::bt) gs) (hN:X.N.Nodup)
  (bw:X.stack=X.env::X.outer:=by rfl) (cK:X.env.frame=some X.env.locals:=by rfl) (hj:X.N[j]?=some n:=by rfl) (hn:X.env.scope.names.lookup n=some .local:=by rfl) (hg:Gl X cn:=by rfl)
  (hs:swapsWith value (some (.Subscript o i pos')) ap.line X.env=pure false:=by rfl) (bG:(cn==("__debug__" : Str))=false:=by decide) :
  MS X Er (.Try [.Assign [.Subscript o i pos'] value ap] [.ExceptHandler (some (.Name cn cp)) (some n) (b0::bt) hp] [] [] pos) (mR j cn fo fi fv gs):=by
 obtain ⟨C,hm,hC⟩:=hC
 exact PS.weak (OE (tsu:=sM X.K X.mg E0 gs) (by omega) hN hj hn ho hi hv hg hm hC g7 bw cK hs bG) λD U H ⟨env,st,ρ,re,rs,h⟩=>by
  refine ⟨env,st,ρ,re,rs,?_⟩
  unfold mR at h
  cases hr:fv env st with
  | ok x ae =>
   rw [hr] at h
   intro ag H1 e1 s1 v rv
   refine ⟨env,ae,ag,re.ext e1,s1,ju (Out.ext h e1) λam H2 y av e2 s2 h2 w rw=>⟨env,av,am,(re.ext e1).ext e2,s2,ju h2 λal H3 zz a_ e3 s3 h3 u ru=>?_⟩⟩
   cases y with
   | ref n =>
    cases zz with
    | str z =>
     cases hn:a_[n]? with
     | none=>simp only [jB,yW,hn] at h3;exact h3.elim
     | some so =>
      cases so with
      | dic ks xs =>
       simp only [jB,yW,hn] at h3
       by_cases hc:ks.length<lim
       ·rw [zu hc] at h3
        obtain ⟨a,vs,e4,ha,k1,k2,k3⟩:=R.refD s3 (R.ext e3 _ rw) hn
        subst e4
        cases ru
        obtain ⟨ws,q1,q2,q3⟩:=uT (z:=z) (R.ext e3 x (R.ext e2 x rv)) k3 k2
        have hlen:(kz ks vs).length<sizeLine:=by
         have:(kz ks vs).length=ks.length:=by simp [kz,k3]
         rw [this,sizeLine_eq]
         have:ks.length<1000000:=hc
         omega
        have g:=dD.k (k:=Sum.inr z) (v:=v) k1 hlen
        have ew:Ext al H3 al (upd H3 a (.dK (L2.putK (kz ks vs) (Sum.inr z) v))):=Ext.write k1 rfl
        refine ⟨a,_,rfl,g,h3 al _ ew (s3.write ha ew ⟨ws,by rw [yx,q1],Rs.ext ew _ q2,q3⟩) U ((((re.ext e1).ext e2).ext e3).ext ew)⟩
       ·rw [zF hc] at h3;exact h3.elim
      | _=>simp only [jB,yW,hn] at h3;exact h3.elim
    | _=>exact h3.elim
   | _=>exact h3.elim
  | stuck=>rw [hr] at h;exact h.elim
  | err c ks xs ae =>
   simp only [hr] at h
   obtain ⟨⟨uG,hk⟩,h2⟩:=Out.ifp h
   subst uG
   intro ag H1 Cv d e1 s1 xr
   obtain ⟨C',rfl,hm',hd⟩:=xr
   rw [hm] at hm'
   cases hm'
   refine ⟨rfl,λq hq=>?_⟩
   rcases hd with ⟨oz,_⟩|⟨dd,vs,rfl,uH,hR,hl⟩
   ·exact absurd oz hk
   ·have eq:Ext ag H1 ag (upd H1 q (fF C (some dd) q)):=Ext.new hq
    refine ⟨env.set j (some (.exo c ks xs)),ae,ag,((re.ext e1).ext eq).set j ⟨q,C,dd,vs,rfl,hm,yx,eq.imm _ _ uH rfl,Rs.ext eq xs hR,hl⟩,s1.new hq,ju (Out.ext h2 (e1.trans eq)) λam H2 fl av e2 s2 h2=>?_⟩
    cases fl with
    | nx e=>exact λaD r2=>Out.fl (D:=D) (fl:=.nx (e.set j none)) (E:=Er) h2 s2 _ (r2.unset j)
    | rt y=>exact λv2 r2=>Out.fl (D:=D) (fl:=.rt y) (E:=Er) h2 s2 _ r2
    | _=>exact h2.elim
end
end Mi
abbrev Mi.At (n:Nat):Option Mi.PV:=some (.ref n)
abbrev Mi.Au (n:Nat):Option Mi.PV:=some (.int n)
abbrev Mi.Ar (i:Int):=Mi.mC (.int i)
abbrev Mi.As (z:PySem.Str):=Mi.mC (.str z)
namespace FK69
open PySem L2 PySem.W Mi
noncomputable def top (i:Nat):Stmt:=PySem.Challenge.pw_foreknown_k69_many_keys.main.body.getD i (.Pass ⟨0,0,0,0⟩)
noncomputable abbrev ze5:Stmt:=top 79
noncomputable abbrev ze6:Stmt:=top 81
noncomputable abbrev ze7:Stmt:=top 80
noncomputable abbrev ze8:Stmt:=top 82
noncomputable abbrev ze9:Stmt:=top 15
noncomputable abbrev zfa:Stmt:=top 23
noncomputable abbrev zfb:Stmt:=top 17
noncomputable abbrev zc8:Stmt:=top 21
noncomputable abbrev zfc:Stmt:=top 11
noncomputable abbrev zfd:Stmt:=top 18
noncomputable abbrev zc9:Stmt:=top 19
noncomputable abbrev zfe:Stmt:=top 10
noncomputable abbrev zff:Stmt:=top 13
noncomputable abbrev zfg:Stmt:=top 28
noncomputable abbrev zfh:Stmt:=top 12
noncomputable abbrev zfi:Stmt:=top 29
noncomputable abbrev zfj:Stmt:=top 30
noncomputable abbrev zda:Stmt:=top 31
noncomputable abbrev zfk:Stmt:=top 75
noncomputable abbrev zfl:Stmt:=inClass (top 73) 0
noncomputable abbrev zfm:Stmt:=top 6
noncomputable abbrev zb7:Stmt:=top 71
noncomputable abbrev zfn:Stmt:=inClass (top 73) 1
noncomputable abbrev zdb:Stmt:=top 22
noncomputable abbrev zfo:Stmt:=inClass (top 67) 0
noncomputable abbrev zfp:Stmt:=inClass (top 68) 0
noncomputable abbrev zfq:Stmt:=inClass (top 74) 0
noncomputable abbrev zfr:Stmt:=top 69
noncomputable abbrev zdc:Stmt:=inClass (top 74) 1
noncomputable abbrev zfs:Stmt:=inClass (top 67) 2
noncomputable abbrev zft:Stmt:=inClass (top 68) 2
noncomputable abbrev zfu:Stmt:=inClass (top 74) 3
noncomputable abbrev zfv:Stmt:=inClass (top 74) 5
noncomputable abbrev zdd:Stmt:=inClass (top 74) 4
noncomputable abbrev zfw:Stmt:=top 61
noncomputable abbrev zfx:Stmt:=top 4
noncomputable abbrev zfy:Stmt:=top 39
noncomputable abbrev zfz:Stmt:=top 41
noncomputable abbrev zfA:Stmt:=top 42
noncomputable abbrev zfB:Stmt:=top 43
noncomputable abbrev zfC:Stmt:=top 44
noncomputable abbrev zfD:Stmt:=top 45
noncomputable abbrev zfE:Stmt:=top 40
noncomputable abbrev zfF:Stmt:=top 46
noncomputable abbrev zfG:Stmt:=top 47
noncomputable abbrev zfH:Stmt:=top 48
noncomputable abbrev zfI:Stmt:=top 49
noncomputable abbrev zfJ:Stmt:=top 50
noncomputable abbrev zfK:Stmt:=top 51
noncomputable abbrev zfL:Stmt:=top 52
noncomputable abbrev zfM:Stmt:=top 53
noncomputable abbrev zfN:Stmt:=top 54
noncomputable abbrev zfO:Stmt:=top 55
noncomputable abbrev zfP:Stmt:=top 56
noncomputable abbrev zfQ:Stmt:=top 57
noncomputable abbrev zfR:Stmt:=top 58
noncomputable abbrev zfS:Stmt:=top 59
noncomputable abbrev zfT:Stmt:=top 5
noncomputable abbrev zfU:Stmt:=top 7
noncomputable abbrev zfV:Stmt:=top 8
noncomputable abbrev zfW:Stmt:=inClass (top 63) 1
noncomputable abbrev zfX:Stmt:=inClass (top 63) 0
noncomputable abbrev zfY:Stmt:=top 64
noncomputable abbrev zde:Stmt:=inClass (top 74) 2
noncomputable abbrev zfZ:Stmt:=inClass (top 74) 6
noncomputable abbrev zf0:Stmt:=inClass (top 67) 1
noncomputable abbrev zf1:Stmt:=inClass (top 68) 1
noncomputable abbrev zf2:Stmt:=top 62
noncomputable abbrev zb8:Stmt:=top 14
noncomputable abbrev zf3:Stmt:=inClass (top 74) 9
noncomputable abbrev zf4:Stmt:=inClass (top 74) 8
noncomputable abbrev zf5:Stmt:=inClass (top 74) 7
noncomputable abbrev zf6:Stmt:=top 76
noncomputable abbrev zf7:Stmt:=top 77
noncomputable abbrev zdf:Stmt:=top 20
noncomputable abbrev zf8:Stmt:=inClass (top 25) 0
noncomputable abbrev zf9:Stmt:=inClass (top 25) 2
noncomputable abbrev zga:Stmt:=inClass (top 25) 1
noncomputable abbrev zgb:Stmt:=inClass (top 25) 3
noncomputable abbrev zdg:Stmt:=top 24
noncomputable abbrev zgc:Stmt:=top 26
noncomputable abbrev zgd:Stmt:=top 83
noncomputable abbrev zbs:Stmt:=top 84
noncomputable abbrev zge:Stmt:=inClass (top 34) 0
noncomputable abbrev zgf:Stmt:=inClass (top 35) 0
noncomputable abbrev zgg:Stmt:=inClass (top 36) 0
noncomputable abbrev zgh:Stmt:=inClass (top 37) 0
noncomputable def insOf (c:Str):Bool:=decide (c = "Holding")||decide (c = "KeyRing")||decide (c = "Known")||decide (c = "Later")||decide (c = "Making")||decide (c = "Op")
noncomputable def excOf (c:Str):Bool:=decide (c = "Fault")||decide (c = "NoOp")||decide (c = "NotLetBy")||decide (c = "TooMany")
noncomputable def isT:IsT where
 isx c:=false
 sub c B :=  none
 subT c n :=  none
 tyC _ _:=none
noncomputable def w5:Ad:=["add", "sub", "mul", "div", "rem", "less", "same", "down", "kind", "front", "head", "rest", "many", "item", "put", "field", "set"]
noncomputable def w6:An:=[.tup [.tup [.str "number", .str "number"],.fn "tell_add"],.tup [.tup [.str "number", .str "number"],.fn "tell_sub"],.tup [.tup [.str "number", .str "number"],.fn "tell_mul"],.tup [.tup [.str "number", .str "number"],.fn "tell_div"],.tup [.tup [.str "number", .str "number"],.fn "tell_rem"],.tup [.tup [.str "number", .str "number"],.fn "tell_less"],.tup [.tup [.str "any", .str "any"],.fn "tell_same"],.tup [.tup [.str "number"],.fn "tell_down"],.tup [.tup [.str "any"],.fn "tell_kind"],.tup [.tup [.str "any", .str "row"],.fn "tell_front"],.tup [.tup [.str "row"],.fn "tell_head"],.tup [.tup [.str "row"],.fn "tell_rest"],.tup [.tup [.str "row"],.fn "tell_many"],.tup [.tup [.str "row", .str "number"],.fn "tell_item"],.tup [.tup [.str "row", .str "number", .str "any"],.fn "tell_put"],.tup [.tup [.str "record", .str "word"],.fn "tell_field"],.tup [.tup [.str "record", .str "word", .str "any"],.fn "tell_set"]]
noncomputable abbrev zgi:Bool:=true
structure Txt (w:World) (K:Frag) (mg:Ab):Prop where
 f__law_cell_at:FnF K mg "_law_cell_at" ze5 ["_law_script", "_law_k"]
 f__law_end:FnF K mg "_law_end" ze6 ["_law_cell"]
 f__law_turned:FnF K mg "_law_turned" ze7 ["_law_three", "_law_way"]
 f__law_program:FnF K mg "_law_program" ze8 ["_law_way", "_law_last"]
 f_functions_by_name:FnF K mg "functions_by_name" ze9 ["program"]
 f_marked:FnF K mg "marked" zfa ["names"]
 f_is_later_at:FnF K mg "is_later_at" zfb ["bits", "place"]
 f_later_params:FnF K mg "later_params" zc8 ["function", "bits"]
 f_lines_of:FnF K mg "lines_of" zfc ["block"]
 f_bits_of:FnF K mg "bits_of" zfd ["truths"]
 f_need:FnF K mg "need" zc9 ["atoms", "later"]
 f_is_step:FnF K mg "is_step" zfe ["line"]
 f_atoms_of:FnF K mg "atoms_of" zff ["line"]
 f_broken_name:FnF K mg "broken_name" zfg ["line", "later"]
 f_aim_of:FnF K mg "aim_of" zfh ["line"]
 f_broken_aim:FnF K mg "broken_aim" zfi ["aim", "goal", "later", "pairs"]
 f_broken_form:FnF K mg "broken_form" zfj ["function", "form", "pairs"]
 f_broken:FnF K mg "broken" zda ["program", "parting"]
 f_forms_by_pair:FnF K mg "forms_by_pair" zfk ["parting"]
 n_KeyRing:NwF K mg "KeyRing" "KeyRing.__init__" zfl ["self", "limit"]
 f_kind_of:FnF K mg "kind_of" zfm ["value"]
 f_show_value:FnF K mg "show_value" zb7 ["value"]
 m_KeyRing_name_for:MtF K mg "KeyRing" "name_for" "KeyRing.name_for" zfn ["self", "key"]
 f_known_params:FnF K mg "known_params" zdb ["function", "bits"]
 n_Known:NwF K mg "Known" "Known.__init__" zfo ["self", "value"]
 n_Later:NwF K mg "Later" "Later.__init__" zfp ["self", "name"]
 n_Making:NwF K mg "Making" "Making.__init__" zfq ["self", "ring", "function", "form", "values"]
 f_thing_of:FnF K mg "thing_of" zfr ["atom", "things"]
 m_Making_things_at:MtF K mg "Making" "things_at" "Making.things_at" zdc ["self", "atoms"]
 m_Known_atom:MtF K mg "Known" "atom" "Known.atom" zfs ["self"]
 m_Later_atom:MtF K mg "Later" "atom" "Later.atom" zft ["self"]
 m_Making_left_aim:MtF K mg "Making" "left_aim" "Making.left_aim" zfu ["self", "name", "atoms", "goal"]
 m_Making_left_call:MtF K mg "Making" "left_call" "Making.left_call" zfv ["self", "step", "place"]
 m_Making_left_let:MtF K mg "Making" "left_let" "Making.left_let" zdd ["self", "step"]
 f_check_kinds:FnF K mg "check_kinds" zfw ["kinds", "values"]
 f_in_bounds:FnF K mg "in_bounds" zfx ["number"]
 f_within_bounds:FnF K mg "within_bounds" zfy ["number"]
 f_tell_add:FnF K mg "tell_add" zfz ["values"]
 f_tell_sub:FnF K mg "tell_sub" zfA ["values"]
 f_tell_mul:FnF K mg "tell_mul" zfB ["values"]
 f_tell_div:FnF K mg "tell_div" zfC ["values"]
 f_tell_rem:FnF K mg "tell_rem" zfD ["values"]
 f_number_of:FnF K mg "number_of" zfE ["truth"]
 f_tell_less:FnF K mg "tell_less" zfF ["values"]
 f_tell_same:FnF K mg "tell_same" zfG ["values"]
 f_tell_down:FnF K mg "tell_down" zfH ["values"]
 f_tell_kind:FnF K mg "tell_kind" zfI ["values"]
 f_tell_front:FnF K mg "tell_front" zfJ ["values"]
 f_filled:FnF K mg "filled" zfK ["row"]
 f_tell_head:FnF K mg "tell_head" zfL ["values"]
 f_tell_rest:FnF K mg "tell_rest" zfM ["values"]
 f_tell_many:FnF K mg "tell_many" zfN ["values"]
 f_place_in:FnF K mg "place_in" zfO ["row", "number"]
 f_tell_item:FnF K mg "tell_item" zfP ["values"]
 f_tell_put:FnF K mg "tell_put" zfQ ["values"]
 f_tell_field:FnF K mg "tell_field" zfR ["values"]
 f_tell_set:FnF K mg "tell_set" zfS ["values"]
 f_things_within:FnF K mg "things_within" zfT ["thing"]
 f_all_within:FnF K mg "all_within" zfU ["thing"]
 f_parts:FnF K mg "parts" zfV ["value"]
 m_Op_answer:MtF K mg "Op" "answer" "Op.answer" zfW ["self", "values"]
 n_Op:NwF K mg "Op" "Op.__init__" zfX ["self", "word"]
 f_op_of:FnF K mg "op_of" zfY ["word"]
 m_Making_answer_ahead:MtF K mg "Making" "answer_ahead" "Making.answer_ahead" zde ["self", "step"]
 m_Making_left_go:MtF K mg "Making" "left_go" "Making.left_go" zfZ ["self", "end", "place"]
 m_Known_ahead:MtF K mg "Known" "ahead" "Known.ahead" zf0 ["self"]
 m_Later_ahead:MtF K mg "Later" "ahead" "Later.ahead" zf1 ["self"]
 f_chooses_first:FnF K mg "chooses_first" zf2 ["value"]
 f_aims_of:FnF K mg "aims_of" zb8 ["block"]
 m_Making_decided:MtF K mg "Making" "decided" "Making.decided" zf3 ["self", "end", "value", "place"]
 m_Making_made_end:MtF K mg "Making" "made_end" "Making.made_end" zf4 ["self", "end", "place"]
 m_Making_made_block:MtF K mg "Making" "made_block" "Making.made_block" zf5 ["self", "block", "place"]
 f_made_function:FnF K mg "made_function" zf6 ["ring", "key", "function", "form"]
 f_make:FnF K mg "make" zf7 ["program", "parting", "known", "limit"]
 f_held_bits:FnF K mg "held_bits" zdf ["function", "held"]
 n_Holding:NwF K mg "Holding" "Holding.__init__" zf8 ["self", "program", "held"]
 m_Holding_goal_of:MtF K mg "Holding" "goal_of" "Holding.goal_of" zf9 ["self", "aim", "later"]
 m_Holding_makes_later:MtF K mg "Holding" "makes_later" "Holding.makes_later" zga ["self", "name", "step", "later"]
 m_Holding_best_form:MtF K mg "Holding" "best_form" "Holding.best_form" zgb ["self", "function", "bits"]
 f_aimed_pairs:FnF K mg "aimed_pairs" zdg ["function", "goals"]
 f_best:FnF K mg "best" zgc ["program", "bits", "held"]
 f__law_made:FnF K mg "_law_made" zgd ["_law_many", "_law_last"]
 f_law:FnF K mg "law" zbs ["_law_script"]
 x_Fault:XnF K mg "Fault" "word" "Fault.__init__" zge
 x_NoOp:XnF K mg "NoOp" "word" "NoOp.__init__" zgf
 x_NotLetBy:XnF K mg "NotLetBy" "row" "NotLetBy.__init__" zgg
 x_TooMany:XnF K mg "TooMany" "limit" "TooMany.__init__" zgh
 b_dict:mg "dict" = none
 b_enumerate:mg "enumerate" = none
 b_isinstance:mg "isinstance" = none
 b_len:mg "len" = none
 b_list:mg "list" = none
 b_range:mg "range" = none
 b_sorted:mg "sorted" = none
 b_str:mg "str" = none
 b_tuple:mg "tuple" = none
 b_zip:mg "zip" = none
 c_MOST_PARTS:∃t,mg "MOST_PARTS" = some (.int 60 t)
 c_NUMBER_BOUND:∃t,mg "NUMBER_BOUND" = some (.int 1000000000000000000 t)
 d_bits_by_name:FldF K mg "bits_by_name" insOf excOf
 d_goals:FldF K mg "goals" insOf excOf
 d_later:FldF K mg "later" insOf excOf
 d_limit:FldF K mg "limit" insOf excOf
 d_many:FldF K mg "many" insOf excOf
 d_met:FldF K mg "met" insOf excOf
 d_name:FldF K mg "name" insOf excOf
 d_names:FldF K mg "names" insOf excOf
 d_pairs:FldF K mg "pairs" insOf excOf
 d_ring:FldF K mg "ring" insOf excOf
 d_things:FldF K mg "things" insOf excOf
 d_value:FldF K mg "value" insOf excOf
 d_word:FldF K mg "word" insOf excOf
 is:IsF K mg isT
 kd_OPS:∀X:Cx,X.K=K->X.mg=mg->X.w=w->KdF X "OPS" w5 w6 zgi
section
variable {P:Program}{w:World}{K:Frag}{mg:Ab}{base:Heap}
set_option hygiene false in
local macro_rules
|`(tactic|exact $s:str)=>do
 let ts<-(s.getString.splitOn " ").toArray.mapM λ(w:String)=>do
  let p:=(w.drop 1).toString
  let i:Lean.TSyntax `term:=if p.all Char.isDigit then ⟨(Lean.Syntax.mkNumLit p).raw⟩ else ⟨(Lean.mkIdent p.toName).raw⟩
  match w.toList.headD 'a' with
  |'a'=>`(tactic|refine $i ?_ ?_)
  |'b'=>`(tactic|exact (zf $i))
  |'c'=>`(tactic|exact $i)
  |'d'=>`(tactic|refine $i ?_)
  |'e'=>`(tactic|refine zw ?_ ?_ ?_ ?_)
  |'f'=>`(tactic|exact λ_ _=>rfl)
  |'g'=>`(tactic|refine zQ ($i T) (hr.mono (by decide)) zE ?_)
  |'h'=>`(tactic|exact (zx (zm hr)))
  |'i'=>`(tactic|refine zT $i ?_ ?_)
  |'j'=>`(tactic|refine ye ?_ ?_ ?_)
  |'k'=>`(tactic|refine ya $i ?_ ?_)
  |'l'=>`(tactic|refine zg ?_ ?_)
  |'m'=>`(tactic|exact (yN (zm hr) (zx (zm hr))))
  |'n'=>`(tactic|refine yh ($i (zm hr)) ?_ ?_)
  |'o'=>`(tactic|refine jb (λc m h=>$i T h) ?_ (hr.mono (by decide)) zE ?_)
  |'p'=>`(tactic|exact zl)
  |'q'=>`(tactic|refine wf ($i T) ?_ (hr.mono (by decide)) zE rfl)
  |'r'=>`(tactic|exact zo)
  |'s'=>`(tactic|refine y7 jz T.b_tuple jm ?_)
  |'t'=>`(tactic|refine yA $i ?_)
  |'u'=>`(tactic|refine j7 (js rfl rfl) rfl ?_ ?_ ?_)
  |'v'=>`(tactic|refine y3 jC T.b_len jA ?_)
  |'w'=>`(tactic|refine kX (N:=["_law_script", "_law_many", "_law_row", "_law_way", "_law_last", "_law_limit", "_law_program_here", "_law_bits", "_law_found", "_law_refused", "e", "_law_keys"]) rfl (by exact ⟨rfl,by decide +kernel,by decide +kernel,rfl,by show ∀y:Str×NameKind,y∈_->y.2=NameKind.free->List.lookup y.1 (zD zbs).names=some NameKind.cell;decide +kernel⟩) rfl (by decide +kernel) ?_ ?_)
  |'x'=>`(tactic|refine w4 ($i T) (hr.mono (by decide)) zE ?_)
  |'y'=>`(tactic|refine zB ?_)
  |'z'=>`(tactic|refine zC ?_ ?_)
  |'A'=>`(tactic|intro _ _ _ _ _)
  |'B'=>`(tactic|refine Ox (N:=["function", "bits"]) rfl (by exact ⟨rfl,by decide +kernel,by decide +kernel,by show ∀y:Str×NameKind,y∈_->y.2=NameKind.free->List.lookup y.1 (zD $i).names=some NameKind.cell;decide +kernel⟩) rfl (by decide +kernel) T.b_enumerate ?_ ?_ ?_)
  |'C'=>`(tactic|refine $i ?_ ?_ ?_ ?_ ?_)
  |'D'=>`(tactic|refine yh $i ?_ ?_)
  |'E'=>`(tactic|refine zI ?_)
  |'F'=>`(tactic|refine y3 (K9 T.is) T.b_isinstance LA ?_)
  |'G'=>`(tactic|refine j2 ($i (zm hr)) ?_ ?_)
  |'H'=>`(tactic|exact (zf 0))
  |'I'=>`(tactic|refine j6 $i ?_ ?_)
  |'J'=>`(tactic|refine jb (λc m h=>vp lp h) ?_ (hr.mono (by omega)) zE ?_)
  |'K'=>`(tactic|exact zM)
  |'L'=>`(tactic|refine zN ?_)
  |'M'=>`(tactic|refine zQ ($i T) (hr.mono (by decide)) wW ?_)
  |'N'=>`(tactic|exact (zm hr))
  |'O'=>`(tactic|refine zQ ($i T) (hr.mono (by omega)) zE ?_)
  |'P'=>`(tactic|refine zQ lp (hr.mono (by omega)) $i ?_)
  |'Q'=>`(tactic|refine jb (λc m h=>$i T h) ?_ (hr.mono (by omega)) zE ?_)
  |'R'=>`(tactic|exact (zf 1))
  |'S'=>`(tactic|refine BP (λc m h=>$i T h) ?_ (hr.mono (by omega)) zE)
  |'T'=>`(tactic|refine $i (T.kd_OPS _ rfl rfl rfl) ?_)
  |'U'=>`(tactic|exact yg)
  |'V'=>`(tactic|refine zQ (Dw T 5) (hr.mono (by decide)) zE ?_)
  |'W'=>`(tactic|refine yh (Oa (zm hr) (zbl (zm hr))) ?_ ?_)
  |'X'=>`(tactic|refine y7 Mv T.b_str B4 ?_)
  |'Y'=>`(tactic|refine jb (λc m h=>vp ($i T hk lp) h) ?_ (hr.mono (by omega)) zE ?_)
  |'Z'=>`(tactic|refine $i ?_ ?_ ?_)
  |'0'=>`(tactic|exact jI.nd)
  |'1'=>`(tactic|refine Lo (js rfl rfl) ?_ ?_)
  |'2'=>`(tactic|refine BP (λc m h=>zdt T h) ?_ (hr.mono (by decide)) $i)
  |'3'=>`(tactic|refine Mq (js rfl rfl) rfl T.b_enumerate ?_ ?_ ?_)
  |'4'=>`(tactic|exact (qy T.b_tuple jm))
  |'5'=>`(tactic|refine yA T.d_things ?_)
  |'6'=>`(tactic|exact (zf 2))
  |'7'=>`(tactic|refine j2 (N_ (zm hr) (zbk (zm hr))) ?_ ?_)
  |'8'=>`(tactic|refine Ln T.b_zip ?_)
  |'9'=>`(tactic|exact (zf 3))
  |'!'=>`(tactic|refine ya yT ?_ ?_)
  |'$'=>`(tactic|exact ⟨rfl,by decide +kernel,by decide +kernel,rfl,by show ∀y:Str×NameKind,y∈_->y.2=NameKind.free->List.lookup y.1 (zD $i).names=some NameKind.cell;decide +kernel⟩)
  |'%'=>`(tactic|exact ⟨rfl,by decide +kernel,by decide +kernel,by show ∀y:Str×NameKind,y∈_->y.2=NameKind.free->List.lookup y.1 (zD $i).names=some NameKind.cell;decide +kernel⟩)
  |'('=>`(tactic|first|exact Or.inl rfl|exact Or.inr rfl)
  |')'=>`(tactic|first|exact .inl rfl|exact .inr rfl|assumption)
  |'#'=>`(tactic|exact ⟨rfl,rfl,rfl,by decide +kernel,rfl,by decide +kernel,by decide +kernel⟩)
  |_=>Lean.Macro.throwUnsupported
 `(tactic|($[$ts]*))
theorem OI:aa ["self", "word"] ["self", "word"] (zD zge):=by exact "#"
def w8 (T:Txt w K mg):mD P w K mg base "Fault" "word" := T.x_Fault.ok OI λ_ _ _ _ _ _ _ _ _=>nq (qg (pv 0) (pv 1) rfl)
theorem OJ:aa ["self", "word"] ["self", "word"] (zD zgf):=by exact "#"
def zsr (T:Txt w K mg):mD P w K mg base "NoOp" "word" := T.x_NoOp.ok OJ λ_ _ _ _ _ _ _ _ _=>nq (qg (pv 0) (pv 1) rfl)
theorem OK:aa ["self", "row"] ["self", "row"] (zD zgg):=by exact "#"
def zst (T:Txt w K mg):mD P w K mg base "NotLetBy" "row" := T.x_NotLetBy.ok OK λ_ _ _ _ _ _ _ _ _=>nq (qg (pv 0) (pv 1) rfl)
theorem OL:aa ["self", "limit"] ["self", "limit"] (zD zgh):=by exact "#"
def zsv (T:Txt w K mg):mD P w K mg base "TooMany" "limit" := T.x_TooMany.ok OL λ_ _ _ _ _ _ _ _ _=>nq (qg (pv 0) (pv 1) rfl)
theorem OM:aa ["_law_script", "_law_k"] ["_law_script", "_law_k"] (zD ze5):=by exact "#"
noncomputable def OO:Aj :=
  (zH (Ar 0))
noncomputable def OQ:Aj :=
  zA (zV (mB (zh j5 (zd 1) (zt yr (ze (zd 0) zj))))
  (zH (zh zq (zd 0) (zd 1)))
  z0) (OO)
noncomputable def yY:Al:=zJ 2 2 (OQ)
def wL (T:Txt w K mg):a7 P w K mg base "_law_cell_at" 1 yY:=T.f__law_cell_at.ok (k:=0) OM λ_ _ _ _ _ _ _ hr=>by
 exact "z j DwT R v l H p y E e h H R f U y E r"
theorem OR:aa ["_law_cell"] ["_law_cell"] (zD ze6):=by exact "#"
noncomputable def OS:Aj :=
  (zH (zG (ze (As "give") (ze (zG (ze (As "of") (ze (As "x") zj))) zj))))
noncomputable def OT:Aj :=
  zA (zV (mB (zh yq (zh yS (zd 0) (Ar 3)) (Ar 1)))
  (zH (zG (ze (As "fail") (ze (As "enough") zj))))
  z0) (OS)
noncomputable def vy:Al:=zJ 1 1 (OT)
def zsC (T:Txt w K mg):a7 P w K mg base "_law_end" 1 vy:=T.f__law_end.ok (k:=0) OR λ_ _ _ _ _ _ _ hr=>by
 exact "z j nyU kwe H r r y E L l K l K p U y E L l K l L l K l K p p"
theorem OU:aa ["_law_three", "_law_way"] ["_law_three", "_law_way"] (zD ze7):=by exact "#"
noncomputable def OV:Aj :=
  (zH (zG (ze (zh zq (zd 0) (Ar 2)) (ze (zh zq (zd 0) (Ar 0)) (ze (zh zq (zd 0) (Ar 1)) zj)))))
noncomputable def OW:Aj :=
  zA (zV (mB (zh yq (zd 1) (Ar 0)))
  (zH (zd 0))
  z0) (OV)
noncomputable def vz:Al:=zJ 2 2 (OW)
def zjN (T:Txt w K mg):a7 P w K mg base "_law_turned" 1 vz:=T.f__law_turned.ok (k:=0) OU λ_ _ _ _ _ _ _ hr=>by
 exact "z j nyU R r y E H U y E L l e h H r f l e h H r f l e h H r f p"
theorem zdh:aa ["_law_way", "_law_last", "_law_n", "_law_steps", "_law_end_here"] ["_law_way", "_law_last"] (zD ze8):=by exact "#"
noncomputable def OX:Aj :=
  (zH (zG (ze (zG (ze (As "again") (ze (zt vz (ze (zG (CC ["n", "r", "x"])) (ze (zd 0) zj))) (ze (zG (ze (zG zj) (ze (zG (ze (As "if") (ze (zd 2) (ze (zG (ze (zd 3) (ze (zd 4) zj))) (ze (zG (ze (zG zj) (ze (zd 1) zj))) zj))))) zj))) zj)))) zj)))
noncomputable def OY:Aj :=
  zA (zO 4 (zG (ze (As "go") (ze (As "again") (ze (zt vz (ze (zG (ze (zG (ze (As "of") (ze (As "m") zj))) (ze (zG (ze (As "of") (ze (As "r") zj))) (ze (zG (ze (As "of") (ze (As "y") zj))) zj)))) (ze (zd 0) zj))) zj))))) (OX)
noncomputable def OZ:Aj :=
  zA (zO 3 (zG (ze (zG (ze (As "let") (ze (As "m") (ze (As "down") (ze (zG (ze (zd 2) zj)) zj))))) (ze (zG (ze (As "let") (ze (As "y") (ze (As "add") (ze (zG (ze (zG (ze (As "of") (ze (As "x") zj))) (ze (zd 2) zj))) zj))))) zj)))) (OY)
noncomputable def O0:Aj :=
  zA (zO 2 (zG (ze (As "of") (ze (As "n") zj)))) (OZ)
noncomputable def vA:Al:=zJ 2 5 (O0)
theorem zsK (T:Txt w K mg):a7 P w K mg base "_law_program" 2 vA:=T.f__law_program.ok (k:=1) zdh λ_ _ _ _ _ _ _ hr=>by
 exact "z i2 L l K l K p czdh.nd z i3 L l L l K l K l K l L l 6 p p l L l K l K l K l L l L l K l K p l 6 p p p czdh.nd z i4 L l K l K l gzjN l L l L l K l K p l L l K l K p l L l K l K p p l H p p czdh.nd y E L l L l K l gzjN l L dzqT"
 decide +kernel
 exact "l H p l L l L p l L l K l 6 l L l 9 l b4 p l L l L p l R p p p p p"
theorem zgm:aa ["program", "functions", "function"] ["program"] (zD ze9):=by exact "#"
noncomputable def O1:Aj :=
  (zH (zd 1))
noncomputable def O2:Aj :=
  zA (jo (yH (zd 0)) (gN 2)
  (jU (zd 1) (zh zq (zd 2) (Ar 0)) (zd 2))) (O1)
noncomputable def O3:Aj :=
  zA (zO 1 kW) (O2)
noncomputable def mS:Al:=zJ 1 3 (O3)
def zgn (T:Txt w K mg):a7 P w K mg base "functions_by_name" 1 mS:=T.f_functions_by_name.ok (k:=0) zgm λ_ _ _ _ _ _ _ hr=>by
 exact "z i1 czbj czgm.nd z u djg H"
 exact (wq 2 zgm.nd)
 exact "y Czaq N R e h 6 r f 6"
 rfl
 exact "y E R"
theorem zgo:aa ["names", "marks", "name"] ["names"] (zD zfa):=by exact "#"
noncomputable def O4:Aj :=
  (zH (zd 1))
noncomputable def O5:Aj :=
  zA (jo (yH (zd 0)) (gN 2)
  (iU (zd 1) (zd 2) (mC (.bl true)))) (O4)
noncomputable def O6:Aj :=
  zA (zO 1 kW) (O5)
noncomputable def iV:Al:=zJ 1 3 (O6)
def zbu (T:Txt w K mg):a7 P w K mg base "marked" 1 iV:=T.f_marked.ok (k:=0) zgo λ_ _ _ _ _ _ _ hr=>by
 exact "z i1 czbj czgo.nd z u djg H"
 exact (wq 2 zgo.nd)
 exact "y Czc4 N R 6 czaF"
 rfl
 exact "y E R"
theorem O7:aa ["bits", "place"] ["bits", "place"] (zD zfb):=by exact "#"
noncomputable def O8:Aj :=
  (zH (zh yq (zh uV (zh uW (zd 0) (zd 1)) (Ar 1)) (Ar 1)))
noncomputable def iW:Al:=zJ 2 2 (O8)
def zgp (T:Txt w K mg):a7 P w K mg base "is_later_at" 1 iW:=T.f_is_later_at.ok (k:=0) O7 λ_ _ _ _ _ _ _ hr=>by
 exact "y E GyU kzqH kzqJ H R r r"
theorem O9:aa ["function", "bits"] ["function", "bits"] (zD zc8):=by exact "#"
noncomputable def O_:Aj :=
  (zH (zt ja (ze (o9 (ze (zh zq (zd 0) (Ar 1)) zj) (mB (zt iW (ze (zd 3) (ze (zd 0) zj)))) (zd 1)) zj)))
noncomputable def lq:Al:=zJ 2 2 (O_)
theorem zdi (T:Txt w K mg):a7 P w K mg base "later_params" 2 lq:=T.f_later_params.ok (k:=1) O9 λ_ _ _ _ _ _ _ hr=>by
 exact "y E s l Bzc8 l e h H r f p A djx Mzgp l 9 l H p A R p"
theorem zdj:aa ["block", "end", "lines"] ["block"] (zD zfc):=by exact "#"
noncomputable def Pa (mr:Al):Aj :=
  (zH (zd 2))
noncomputable def Pb (mr:Al):Aj :=
  zA (zV (mB (zh yq (zh zq (zd 1) (Ar 0)) (As "if")))
  (zH (zh yo (zh yo (zd 2) (zt mr (ze (zh zq (zd 1) (Ar 2)) zj))) (zt mr (ze (zh zq (zd 1) (Ar 3)) zj))))
  z0) (Pa mr)
noncomputable def Pc (mr:Al):Aj :=
  zA (zO 2 (zh yo (zh zq (zd 0) (Ar 0)) (zG (ze (zd 1) zj)))) (Pb mr)
noncomputable def Pd (mr:Al):Aj :=
  zA (zO 1 (zh zq (zd 0) (Ar 1))) (Pc mr)
noncomputable def Dx (mr:Al):Al:=zJ 1 3 (Pd mr)
theorem Pe (T:Txt w K mg) {k:Nat} (hk:1<=k) {mr:Al} (lp:a7 P w K mg base "lines_of" k mr):a7 P w K mg base "lines_of" (k+1) (Dx mr):=T.f_lines_of.ok (k:=k+0) zdj λ_ _ _ _ _ _ _ hr=>by
 exact "z i1 e h H r f czdj.nd z i2 ! e h H r f L l R p czdj.nd z j nyU e h R r f K y E ! ! 6 PzE l e h R r f p PzE l e h R r f p U y E 6"
noncomputable def lu:Nat->Al
 | 0=>zJ 1 3 qG
 | n+1=>Dx (lu n)
theorem Dw (T:Txt w K mg):∀n,a7 P w K mg base "lines_of" (1+1+1*n) (lu n)
 | 0=>T.f_lines_of.ok (k:=1) zdj λf aX A outer s H E hr=>va
 | n+1=>(Pe T (by omega) (Dw T n)).mono (by omega)
theorem zdl:aa ["truths", "bits", "place", "truth"] ["truths"] (zD zfd):=by exact "#"
noncomputable def Pf:Aj :=
  (zH (zd 1))
noncomputable def Pg:Aj :=
  zA (mK (ze (zd 0) zj) (g2 2 3)
  (zV (mB (zd 3))
  (zO 1 (zh qJ (zd 1) (zh Cq (Ar 1) (zd 2))))
  z0)) (Pf)
noncomputable def Ph:Aj :=
  zA (zO 1 (Ar 0)) (Pg)
noncomputable def vB:Al:=zJ 1 4 (Ph)
def zjP (T:Txt w K mg):a7 P w K mg base "bits_of" 1 vB:=T.f_bits_of.ok (k:=0) zdl λ_ _ _ _ _ _ _ hr=>by
 exact "z i1 r czdl.nd z 3 l H p"
 exact (qC 2 3 rfl zdl.nd)
 exact "y j djx 9 y i1 kzeS R kzqI r 6 czdl.nd U y E R"
theorem Pj:aa ["atoms", "later"] ["atoms", "later"] (zD zc9):=by exact "#"
noncomputable def Pk:Aj :=
  (zH (zt vB (ze (y8 (yH (zd 0)) (my (zh yq (zh zq (zd 0) (Ar 0)) (As "of")) (zh (yI false) (zh zq (zd 0) (Ar 1)) (zd 2)))) zj)))
noncomputable def o_:Al:=zJ 2 2 (Pk)
theorem zdm (T:Txt w K mg):a7 P w K mg base "need" 2 o_:=T.f_need.ok (k:=1) Pj λ_ _ _ _ _ _ _ hr=>by
 exact "y E gzjP l"
 refine kX (N:=["atoms", "later"]) rfl (by exact "$zc9") rfl (by decide +kernel) ?_ ?_
 exact "djg H A azep GyU e h H r f K dzeo Gzbk e h H r f 6 p"
theorem Pl:aa ["line"] ["line"] (zD zfe):=by exact "#"
noncomputable def Pm:Aj :=
  (zH (zh (yI false) (zh zq (zd 0) (Ar 0)) (zG (ze (As "let") (ze (As "call") zj)))))
noncomputable def vC:Al:=zJ 1 1 (Pm)
def zjQ (T:Txt w K mg):a7 P w K mg base "is_step" 1 vC:=T.f_is_step.ok (k:=0) Pl λ_ _ _ _ _ _ _ hr=>by
 exact "y E Gzbk e h H r f L l K l K p"
theorem Pn:aa ["line"] ["line"] (zD zff):=by exact "#"
noncomputable def Po:Aj :=
  (zH (zG (ze (zh zq (zd 0) (Ar 1)) zj)))
noncomputable def Pp:Aj :=
  zA (zV (mB (zh yq (zh zq (zd 0) (Ar 0)) (As "fail")))
  (zH (zG zj))
  z0) (Po)
noncomputable def Pq:Aj :=
  zA (zV (mB (zh yq (zh zq (zd 0) (Ar 0)) (As "go")))
  (zH (zh zq (zd 0) (Ar 2)))
  z0) (Pp)
noncomputable def Pr:Aj :=
  zA (zV (mB (zt vC (ze (zd 0) zj)))
  (zH (zh zq (zd 0) (Ar 3)))
  z0) (Pq)
noncomputable def vD:Al:=zJ 1 1 (Pr)
def zjR (T:Txt w K mg):a7 P w K mg base "atoms_of" 2 vD:=T.f_atoms_of.ok (k:=1) Pn λ_ _ _ _ _ _ _ hr=>by
 exact "z j djx gzjQ l H p y E e h H r f U z j nyU e h H r f K y E e h H r f U z j nyU e h H r f K y E L p U y E L l e h H r f p"
theorem Pt:aa ["line", "later"] ["line", "later"] (zD zfg):=by exact "#"
noncomputable def Pu:Aj :=
  (zH (mC .non))
noncomputable def Pw:Aj :=
  zA (zV (kP (mB (zh yq (zh zq (zd 0) (Ar 0)) (As "call"))) (mB (zh (yI true) (zh zq (zd 0) (Ar 1)) (zd 1))))
  (zH (As "call"))
  z0) (Pu)
noncomputable def Px:Aj :=
  zA (zV (kP (mB (zh yq (zh zq (zd 0) (Ar 0)) (As "let"))) (kP (mB (zh wC (zt o_ (ze (zt vD (ze (zd 0) zj)) (ze (zd 1) zj))) (Ar 0))) (mB (zh (yI true) (zh zq (zd 0) (Ar 1)) (zd 1)))))
  (zH (As "let"))
  z0) (Pw)
noncomputable def Dy:Al:=zJ 2 2 (Px)
def ztg (T:Txt w K mg):a7 P w K mg base "broken_name" 3 Dy:=T.f_broken_name.ok (k:=2) Pt λ_ _ _ _ _ _ _ hr=>by
 exact "z j dza8 azbN nyU e h H r f K azbN nzaJ gzdm l gzjR l H p l R p r dzcI nzbl e h H r f R y E K U z j dza8 azbN nyU e h H r f K dzcI nzbl e h H r f R y E K U y E cjE"
theorem Py:aa ["line"] ["line"] (zD zfh):=by exact "#"
noncomputable def Pz:Aj :=
  (zH (mC .non))
noncomputable def PB:Aj :=
  zA (zV (mB (zh yq (zh zq (zd 0) (Ar 0)) (As "go")))
  (zH (zG (ze (zh zq (zd 0) (Ar 1)) (ze (zh zq (zd 0) (Ar 2)) zj))))
  z0) (Pz)
noncomputable def PC:Aj :=
  zA (zV (mB (zh yq (zh zq (zd 0) (Ar 0)) (As "call")))
  (zH (zG (ze (zh zq (zd 0) (Ar 2)) (ze (zh zq (zd 0) (Ar 3)) zj))))
  z0) (PB)
noncomputable def iX:Al:=zJ 1 1 (PC)
def zgt (T:Txt w K mg):a7 P w K mg base "aim_of" 1 iX:=T.f_aim_of.ok (k:=0) Py λ_ _ _ _ _ _ _ hr=>by
 exact "z j nyU e h H r f K y E L l e h H r f l e h H r f p U z j nyU e h H r f K y E L l e h H r f l e h H r f p U y E cjE"
theorem PD:aa ["aim", "goal", "later", "pairs"] ["aim", "goal", "later", "pairs"] (zD zfi):=by exact "#"
noncomputable def PF:Aj :=
  (zH (mC .non))
noncomputable def PH:Aj :=
  zA (zV (mB (zh (cu (yI true) true) (zG (ze (zh (aS zq) (zd 0) (Ar 0)) (ze (zd 1) zj))) (zd 3)))
  (zH (As "form"))
  z0) (PF)
noncomputable def PJ:Aj :=
  zA (zV (mB (zh wC (zh qJ (zt o_ (ze (zh (aS zq) (zd 0) (Ar 1)) (ze (zd 2) zj))) (zd 1)) (zd 1)))
  (zH (As "goal"))
  z0) (PH)
noncomputable def Dz:Al:=zJ 4 4 (PJ)
def ztp (T:Txt w K mg):a7 P w K mg base "broken_aim" 3 Dz:=T.f_broken_aim.ok (k:=2) PD λ_ _ _ _ _ _ _ hr=>by
 exact "z j nzaJ kzeS gzdm l e m H r f l 6 p R R y E K U z j W L l e m H r f l R p 9 y E K U y E cjE"
theorem zax:aa ["function", "form", "pairs", "later", "place", "line", "word", "aim"] ["function", "form", "pairs"] (zD zfj):=by exact "#"
noncomputable def PK:Aj :=
  (zH (mC .non))
noncomputable def PL:Aj :=
  zA (jo (yH (zt (lu 5) (ze (zh zq (zd 0) (Ar 2)) zj))) (gN 5)
  (zA (zO 6 (zt Dy (ze (zd 5) (ze (zd 3) zj))))
  (zA (zV (mB (zh wj (zd 6) (mC .non)))
  (zH (zG (ze (zd 6) (ze (zh zq (zd 1) (Ar 0)) (ze (zh zq (zd 1) (Ar 1)) (ze (zh zq (zd 5) (Ar 1)) zj))))))
  z0)
  (zA (zO 7 (zt iX (ze (zd 5) zj)))
  (zV (mB (zh wj (zd 7) (mC .non)))
  (zA (zO 6 (zt Dz (ze (zd 7) (ze (zh zq (zh zq (zd 1) (Ar 3)) (zd 4)) (ze (zd 3) (ze (zd 2) zj))))))
  (zA (zV (mB (zh wj (zd 6) (mC .non)))
  (zH (zG (ze (zd 6) (ze (zh zq (zd 1) (Ar 0)) (ze (zh zq (zd 1) (Ar 1)) (ze (zd 4) zj))))))
  z0)
  (mG 4 gq (Ar 1))))
  z0))))) (PK)
noncomputable def PN:Aj :=
  zA (zO 4 (Ar 0)) (PL)
noncomputable def PQ:Aj :=
  zA (zO 3 (zt iV (ze (zh yo (zt lq (ze (zd 0) (ze (zh zq (zd 1) (Ar 1)) zj))) (zh zq (zd 1) (Ar 2))) zj))) (PN)
noncomputable def DA:Al:=zJ 3 8 (PQ)
def ztu (T:Txt w K mg):a7 P w K mg base "broken_form" 8 DA:=T.f_broken_form.ok (k:=7) zax λ_ _ _ _ _ _ _ hr=>by
 exact "z i3 gzbu l ! gzdi l H l e h R r f p e h R r f p czax.nd z i4 r czax.nd z u djg V l e h H r f p"
 exact (wq 5 zax.nd)
 exact "z i6 gztg l b5 l 9 p czax.nd z j DwX b6 cjE y E L l b6 l e h R r f l e h R r f l e h b5 r f p U z i7 gzgt l b5 p czax.nd y j DwX b7 cjE z i6 gztp l b7 l e h e h R r f b4 f l 9 l 6 p czax.nd z j DwX b6 cjE y E L l b6 l e h R r f l e h R r f l b4 p U y"
 refine uF 4 uE ?_ zax.nd
 exact "r U y E cjE"
theorem zca:aa ["program", "parting", "functions", "pairs", "form", "row"] ["program", "parting"] (zD zda):=by exact "#"
noncomputable def PR:Aj :=
  (zH (mC .non))
noncomputable def PU:Aj :=
  zA (jo (yH (zd 1)) (gN 4)
  (zA (zO 5 (zt DA (ze (zh zq (zd 2) (zh zq (zd 4) (Ar 0))) (ze (zd 4) (ze (zd 3) zj)))))
  (zV (mB (zh wj (zd 5) (mC .non)))
  (zH (zd 5))
  z0))) (PR)
noncomputable def PY:Aj :=
  zA (zO 3 (zt iV (ze (y8 (yH (zd 1)) (zG (ze (zh zq (zd 0) (Ar 0)) (ze (zh zq (zd 0) (Ar 1)) zj)))) zj))) (PU)
noncomputable def PZ:Aj :=
  zA (zO 2 (zt mS (ze (zd 0) zj))) (PY)
noncomputable def qW:Al:=zJ 2 6 (PZ)
theorem ztz (T:Txt w K mg):a7 P w K mg base "broken" 9 qW:=T.f_broken.ok (k:=8) zca λ_ _ _ _ _ _ _ hr=>by
 exact "z i2 gzgn l H p czca.nd z i3 gzbu l"
 refine Cr (M:=["program", "parting", "functions", "pairs", "~form", "row"]) rfl (by exact "$zda") (by exact ⟨rfl,by show ∀p∈List.zip (["program", "parting", "functions", "pairs", "~form", "row"]:Ad) (["program", "parting", "functions", "pairs", "form", "row"]:Ad),p.1=p.2\/p.1∉(_:Ad);decide +kernel⟩) (by decide +kernel) ?_ ?_
 exact "djg R A L l e h H r f l e h H r f p p czca.nd z u djg R"
 exact (wq 4 zca.nd)
 exact "z i5 gztu l e h 6 e h b4 r f f l b4 l 9 p czca.nd y j DwX b5 cjE y E b5 U y E cjE"
theorem zgu:aa ["parting", "forms", "form"] ["parting"] (zD zfk):=by exact "#"
noncomputable def P0:Aj :=
  (zH (zd 1))
noncomputable def P1:Aj :=
  zA (jo (yH (zd 0)) (gN 2)
  (iU (zd 1) (zG (ze (zh (aS zq) (zd 2) (Ar 0)) (ze (zh (aS zq) (zd 2) (Ar 1)) zj))) (zd 2))) (P0)
noncomputable def P2:Aj :=
  zA (zO 1 kW) (P1)
noncomputable def qX:Al:=zJ 1 3 (P2)
def ztD (T:Txt w K mg):a7 P w K mg base "forms_by_pair" 1 qX:=T.f_forms_by_pair.ok (k:=0) zgu λ_ _ _ _ _ _ _ hr=>by
 exact "z i1 czbj czgu.nd z u djg H"
 exact (wq 2 zgu.nd)
 exact "y Czc4 N R L l e m 6 r f l e m 6 r f p 6"
 rfl
 exact "y E R"
theorem P4:aa ["self", "limit"] ["self", "limit"] (zD zfl):=by exact "#"
noncomputable def P5:Aj :=
  (sFld "names" insOf (zd 0) kW)
noncomputable def P6:Aj :=
  zA (sFld "met" insOf (zd 0) (jF zj)) (P5)
noncomputable def P7:Aj :=
  zA (sFld "limit" insOf (zd 0) (zd 1)) (P6)
noncomputable def pd:Al:=zJ 2 2 (P7)
def ztI (T:Txt w K mg):gK P w K mg base "KeyRing" 1 pd:=T.n_KeyRing.ok (k:=0) P4 λ_ _ _ _ _ _ _ hr=>by
 exact "z IT.d_limit H R z IT.d_met H dj1 p y IT.d_names H czbj"
theorem P8:aa ["value"] ["value"] (zD zfm):=by exact "#"
noncomputable def DB:Aj :=
  (zH (As "number"))
noncomputable def DC:Aj :=
  zA (zV (mB (zt (wD isT) (ze (zd 0) (ze (mC (.ty "dict")) zj))))
  (zH (As "record"))
  z0) (DB)
noncomputable def DD:Aj :=
  zA (zV (mB (zt (wD isT) (ze (zd 0) (ze (mC (.ty "tuple")) zj))))
  (zH (As "row"))
  z0) (DC)
noncomputable def DE:Aj :=
  zA (zV (mB (zt (wD isT) (ze (zd 0) (ze (mC (.ty "str")) zj))))
  (zH (As "word"))
  z0) (DD)
noncomputable def iY:Al:=zJ 1 1 (DE)
def zgv (T:Txt w K mg):a7 P w K mg base "kind_of" 1 iY:=T.f_kind_of.ok (k:=0) P8 λ_ _ _ _ _ _ _ hr=>by
 exact "z j djx F l H l"
 exact (qy T.b_str B4)
 exact "p y E K U z j djx F l H l 4 p y E K U z j djx F l H l"
 exact (qy T.b_dict uL)
 exact "p y E K U y E K"
theorem zdp:aa ["value", "kind", "shown"] ["value"] (zD zb7):=by exact "#"
noncomputable def P9 (mr:Al):Aj :=
  (zH (zh yo (zh yo (As "{") (oZ (As ",") (zd 2))) (As "}")))
noncomputable def P_ (mr:Al):Aj :=
  zA (zO 2 (y8 (yH (zt vo (ze (zd 0) zj))) (zh yo (zh yo (zd 0) (As ":")) (zt mr (ze (zh zq (zd 1) (zd 0)) zj))))) (P9 mr)
noncomputable def Qa (mr:Al):Aj :=
  zA (zV (mB (zh yq (zd 1) (As "row")))
  (zH (zh yo (zh yo (As "[") (oZ (As ",") (y8 (yH (zd 0)) (zt mr (ze (zd 0) zj))))) (As "]")))
  z0) (P_ mr)
noncomputable def Qb (mr:Al):Aj :=
  zA (zV (mB (zh yq (zd 1) (As "word")))
  (zH (zh yo (As "'") (zd 0)))
  z0) (Qa mr)
noncomputable def Qc (mr:Al):Aj :=
  zA (zV (mB (zh yq (zd 1) (As "number")))
  (zH (zt wG (ze (zd 0) zj)))
  z0) (Qb mr)
noncomputable def Qd (mr:Al):Aj :=
  zA (zO 1 (zt iY (ze (zd 0) zj))) (Qc mr)
noncomputable def qY (mr:Al):Al:=zJ 1 3 (Qd mr)
theorem Qe (T:Txt w K mg) {k:Nat} (hk:1<=k) {mr:Al} (lp:a7 P w K mg base "show_value" k mr):a7 P w K mg base "show_value" (k+1) (qY mr):=T.f_show_value.ok (k:=k+0) zdp λ_ _ _ _ _ _ _ hr=>by
 exact "z i1 Ozgv l H p czdp.nd z j nyU R K y E X l H p U z j nyU R K y E ! K H U z j nyU R K y E ! ! K azjB K"
 refine kX (N:=["value", "kind", "shown"]) rfl (by exact "$zb7") rfl (by decide +kernel) ?_ ?_
 exact "djg H A PwW l H p K U z"
 refine C5 2 (N:=["value", "kind", "shown"]) rfl (by exact "$zb7") rfl (by decide +kernel) ?_ ?_ zdp.nd rfl (by exact "(") (by exact ")") (by rfl)
 exact "djg"
 refine y3 (NW rfl) T.b_sorted NV ?_
 exact "l H p A ! ! H K PwW l e h R H f p y E ! ! K azjB K 6 K"
noncomputable def pe:Nat->Al
 | 0=>zJ 1 3 qG
 | n+1=>qY (pe n)
theorem DF (T:Txt w K mg):∀n,a7 P w K mg base "show_value" (1+1+1*n) (pe n)
 | 0=>T.f_show_value.ok (k:=1) zdp λf aX A outer s H E hr=>va
 | n+1=>(Qe T (by omega) (DF T n)).mono (by omega)
theorem zgw:aa ["self", "key", "shown", "number"] ["self", "key"] (zD zfn):=by exact "#"
noncomputable def Qf:Aj :=
  (zH (zh (aS zq) (zX (aM "names" insOf excOf) (zd 0)) (zd 2)))
noncomputable def DG:Aj :=
  zA (zV (mB (zh (cu (yI true) true) (zd 2) (zX (aM "names" insOf excOf) (zd 0))))
  (zA (zO 3 (zt yr (ze (zX (aM "met" insOf excOf) (zd 0)) zj)))
  (zA (zV (mB (zh oK (zd 3) (zX (aM "limit" insOf excOf) (zd 0))))
  (jL "TooMany" "limit" (zX (aM "limit" insOf excOf) (zd 0)))
  z0)
  (zA (yX (y4 jh (zX (aM "met" insOf excOf) (zd 0)) (zd 1)))
  (iU (zX (aM "names" insOf excOf) (zd 0)) (zd 2) (zX (vx "q") (zd 3))))))
  z0) (Qf)
noncomputable def DH:Aj :=
  zA (zO 2 (zG (ze (zh (aS zq) (zd 1) (Ar 0)) (ze (zh (aS zq) (zd 1) (Ar 1)) (ze (zt (pe 4) (ze (zh (aS zq) (zd 1) (Ar 2)) zj)) zj))))) (DG)
noncomputable def m_KeyRing_name_for:Al:=zJ 2 4 (DH)
def Qg (T:Txt w K mg):bx P w K mg base "KeyRing" "name_for" 7 m_KeyRing_name_for:=T.m_KeyRing_name_for.ok (k:=6) zgw λ_ _ _ _ _ _ _ hr=>by
 exact "z i2 L l e m R r f l e m R r f l"
 refine zQ (DF T 4) (hr.mono (by decide)) zE ?_
 exact "l e m R r f p p czgw.nd z j W 6 tT.d_names H z i3 v l tT.d_met H p czgw.nd z j nzjo 9 tT.d_limit H y qzsv tT.d_limit H U z djG awg tT.d_met H R y Czc4 N tT.d_names H 6 dzsm 9"
 rfl
 exact "U y E e m tT.d_names H 6 f"
noncomputable def pf (c:Str):Option (Al):=if c = "KeyRing" then some m_KeyRing_name_for else none
def zgx (T:Txt w K mg) {c:Str} {m:Al} (h:pf c=some m):bx P w K mg base c "name_for" 7 m:=by
 unfold pf at h
 by_cases e0:c = "KeyRing"
 ·rw [zu e0] at h;cases h;rw [e0];exact (Qg T).mono (by decide)
 rw [zF e0] at h
 cases h
theorem Qh:aa ["function", "bits"] ["function", "bits"] (zD zdb):=by exact "#"
noncomputable def Qi:Aj :=
  (zH (zt ja (ze (o9 (ze (zh zq (zd 0) (Ar 1)) zj) (iJ (mB (zt iW (ze (zd 3) (ze (zd 0) zj))))) (zd 1)) zj)))
noncomputable def qZ:Al:=zJ 2 2 (Qi)
theorem ztV (T:Txt w K mg):a7 P w K mg base "known_params" 2 qZ:=T.f_known_params.ok (k:=1) Qh λ_ _ _ _ _ _ _ hr=>by
 exact "y E s l Bzdb l e h H r f p A dzcJ djx Mzgp l 9 l H p A R p"
theorem Qj:aa ["self", "value"] ["self", "value"] (zD zfo):=by exact "#"
noncomputable def Qk:Aj :=
  (sFld "value" insOf (zd 0) (zd 1))
noncomputable def w9:Al:=zJ 2 2 (Qk)
def zgy (T:Txt w K mg):gK P w K mg base "Known" 1 w9:=T.n_Known.ok (k:=0) Qj λ_ _ _ _ _ _ _ hr=>by
 exact "y IT.d_value H R"
theorem Ql:aa ["self", "name"] ["self", "name"] (zD zfp):=by exact "#"
noncomputable def Qm:Aj :=
  (sFld "name" insOf (zd 0) (zd 1))
noncomputable def h_:Al:=zJ 2 2 (Qm)
def zgz (T:Txt w K mg):gK P w K mg base "Later" 1 h_:=T.n_Later.ok (k:=0) Ql λ_ _ _ _ _ _ _ hr=>by
 exact "y IT.d_name H R"
theorem vE:aa ["self", "ring", "function", "form", "values", "param", "value"] ["self", "ring", "function", "form", "values"] (zD zfq):=by exact "#"
noncomputable def Qn:Aj :=
  (jo (yH (zt lq (ze (zd 2) (ze (zh zq (zd 3) (Ar 1)) zj)))) (gN 5)
  (jU (zX (aM "things" insOf excOf) (zd 0)) (zd 5) (zt (bJ "Later" h_) (ze (zd 5) zj))))
noncomputable def Qo:Aj :=
  zA (jo (mH (ze (zt qZ (ze (zd 2) (ze (zh zq (zd 3) (Ar 1)) zj))) (ze (zd 4) zj))) (g2 5 6)
  (jU (zX (aM "things" insOf excOf) (zd 0)) (zd 5) (zt (bJ "Known" w9) (ze (zd 6) zj)))) (Qn)
noncomputable def Qp:Aj :=
  zA (sFld "things" insOf (zd 0) kW) (Qo)
noncomputable def Qq:Aj :=
  zA (sFld "goals" insOf (zd 0) (zh zq (zd 3) (Ar 3))) (Qp)
noncomputable def Qr:Aj :=
  zA (sFld "later" insOf (zd 0) (zt iV (ze (zh zq (zd 3) (Ar 2)) zj))) (Qq)
noncomputable def Qs:Aj :=
  zA (sFld "ring" insOf (zd 0) (zd 1)) (Qr)
noncomputable def ph:Al:=zJ 5 7 (Qs)
def zub (T:Txt w K mg):gK P w K mg base "Making" 3 ph:=T.n_Making.ok (k:=2) vE λ_ _ _ _ _ _ _ hr=>by
 exact "z IT.d_ring H R z IT.d_later H gzbu l e h 9 r f p z IT.d_goals H e h 9 r f z IT.d_things H czbj z u 8 l gztV l 6 l e h 9 r f p l b4 p"
 exact (qC 5 6 rfl vE.nd)
 exact "y Czaq N 5 H b5 xzgy l b6 p"
 rfl
 exact "y u djg gzdi l 6 l e h 9 r f p"
 exact (wq 5 vE.nd)
 exact "y Czaq N 5 H b5 xzgz l b5 p"
 rfl
theorem Qt:aa ["atom", "things"] ["atom", "things"] (zD zfr):=by exact "#"
noncomputable def Qu:Aj :=
  (zH (zh zq (zd 1) (zh zq (zd 0) (Ar 1))))
noncomputable def Qv:Aj :=
  zA (zV (mB (zh yq (zh zq (zd 0) (Ar 0)) (As "is")))
  (zH (zt (bJ "Known" w9) (ze (zh zq (zd 0) (Ar 1)) zj)))
  z0) (Qu)
noncomputable def q0:Al:=zJ 2 2 (Qv)
def zj2 (T:Txt w K mg):a7 P w K mg base "thing_of" 3 q0:=T.f_thing_of.ok (k:=2) Qt λ_ _ _ _ _ _ _ hr=>by
 exact "z j nyU e h H r f K y E xzgy l e h H r f p U y E e h R e h H r f f"
theorem Qw:aa ["self", "atoms"] ["self", "atoms"] (zD zdc):=by exact "#"
noncomputable def Qx:Aj :=
  (zH (y8 (yH (zd 1)) (zt q0 (ze (zd 0) (ze (zX (aM "things" insOf excOf) (zd 1)) zj)))))
noncomputable def m_Making_things_at:Al:=zJ 2 2 (Qx)
theorem Qy (T:Txt w K mg):bx P w K mg base "Making" "things_at" 4 m_Making_things_at:=T.m_Making_things_at.ok (k:=3) Qw λ_ _ _ _ _ _ _ hr=>by
 exact "y E"
 refine kX (N:=["self", "atoms"]) rfl (by exact "$zdc") rfl (by decide +kernel) ?_ ?_
 exact "djg R A Mzj2 l H l 5 R p"
noncomputable def lz (c:Str):Option (Al):=if c = "Making" then some m_Making_things_at else none
def zgB (T:Txt w K mg) {c:Str} {m:Al} (h:lz c=some m):bx P w K mg base c "things_at" 4 m:=by
 unfold lz at h
 by_cases e0:c = "Making"
 ·rw [zu e0] at h;cases h;rw [e0];exact (Qy T).mono (by decide)
 rw [zF e0] at h
 cases h
theorem Qz:aa ["self"] ["self"] (zD zfs):=by exact "#"
noncomputable def QA:Aj :=
  (zH (zG (ze (As "is") (ze (zX (aM "value" insOf excOf) (zd 0)) zj))))
noncomputable def m_Known_atom:Al:=zJ 1 1 (QA)
def QB (T:Txt w K mg):bx P w K mg base "Known" "atom" 1 m_Known_atom:=T.m_Known_atom.ok (k:=0) Qz λ_ _ _ _ _ _ _ hr=>by
 exact "y E L l K l tT.d_value H p"
theorem QC:aa ["self"] ["self"] (zD zft):=by exact "#"
noncomputable def QD:Aj :=
  (zH (zG (ze (As "of") (ze (zX (aM "name" insOf excOf) (zd 0)) zj))))
noncomputable def m_Later_atom:Al:=zJ 1 1 (QD)
def QE (T:Txt w K mg):bx P w K mg base "Later" "atom" 1 m_Later_atom:=T.m_Later_atom.ok (k:=0) QC λ_ _ _ _ _ _ _ hr=>by
 exact "y E L l K l tT.d_name H p"
noncomputable def wu (c:Str):Option (Al):=if c = "Known" then some m_Known_atom else if c = "Later" then some m_Later_atom else none
def zdt (T:Txt w K mg) {c:Str} {m:Al} (h:wu c=some m):bx P w K mg base c "atom" 1 m:=by
 unfold wu at h
 by_cases e0:c = "Known"
 ·rw [zu e0] at h;cases h;rw [e0];exact (QB T).mono (by decide)
 rw [zF e0] at h
 by_cases e1:c = "Later"
 ·rw [zu e1] at h;cases h;rw [e1];exact (QE T).mono (by decide)
 rw [zF e1] at h
 cases h
theorem zdu:aa ["self", "name", "atoms", "goal", "values", "left", "place", "thing"] ["self", "name", "atoms", "goal"] (zD zfu):=by exact "#"
noncomputable def DI:Aj :=
  (zH (zG (ze (yu "name_for" pf (zX (aM "ring" insOf excOf) (zd 0)) (ze (zG (ze (zd 1) (ze (zd 3) (ze (zt ja (ze (zd 4) zj)) zj)))) zj)) (ze (zt ja (ze (zd 5) zj)) zj))))
noncomputable def QF:Aj :=
  zA (mK (ze (yu "things_at" lz (zd 0) (ze (zd 2) zj)) zj) (g2 6 7)
  (zV (mB (zt iW (ze (zd 3) (ze (zd 6) zj))))
  (yX (y4 jh (zd 5) (yu "atom" wu (zd 7) zj)))
  (yX (y4 jh (zd 4) (zX (aM "value" insOf excOf) (zd 7)))))) (DI)
noncomputable def QG:Aj :=
  zA (zO 5 (jF zj)) (QF)
noncomputable def DJ:Aj :=
  zA (zO 4 (jF zj)) (QG)
noncomputable def m_Making_left_aim:Al:=zJ 4 8 (DJ)
def QH (T:Txt w K mg):bx P w K mg base "Making" "left_aim" 8 m_Making_left_aim:=T.m_Making_left_aim.ok (k:=7) zdu λ_ _ _ _ _ _ _ hr=>by
 exact "z i4 dj1 p czdu.nd z i5 dj1 p czdu.nd z 3 l ozgB H l 6 p p"
 exact (qC 6 7 rfl zdu.nd)
 exact "y j djx gzgp l 9 l b6 p y djG awg b5 2zE b7 y djG awg b4 tT.d_value b7 y E L l ozgx tT.d_ring H l L l R l 9 l s l b4 p p p l s l b5 p p"
noncomputable def q8 (c:Str):Option (Al):=if c = "Making" then some m_Making_left_aim else none
def zj5 (T:Txt w K mg) {c:Str} {m:Al} (h:q8 c=some m):bx P w K mg base c "left_aim" 8 m:=by
 unfold q8 at h
 by_cases e0:c = "Making"
 ·rw [zu e0] at h;cases h;rw [e0];exact (QH T).mono (by decide)
 rw [zF e0] at h
 cases h
theorem zj6:aa ["self", "step", "place", "aim"] ["self", "step", "place"] (zD zfv):=by exact "#"
noncomputable def QI:Aj :=
  (zH (zG (ze (As "call") (ze (zh zq (zd 1) (Ar 1)) (ze (zh zq (zd 3) (Ar 0)) (ze (zh zq (zd 3) (Ar 1)) zj))))))
noncomputable def QJ:Aj :=
  zA (jU (zX (aM "things" insOf excOf) (zd 0)) (zh zq (zd 1) (Ar 1)) (zt (bJ "Later" h_) (ze (zh zq (zd 1) (Ar 1)) zj))) (QI)
noncomputable def QK:Aj :=
  zA (zO 3 (yu "left_aim" q8 (zd 0) (ze (zh zq (zd 1) (Ar 2)) (ze (zh zq (zd 1) (Ar 3)) (ze (zh zq (zX (aM "goals" insOf excOf) (zd 0)) (zd 2)) zj))))) (QJ)
noncomputable def m_Making_left_call:Al:=zJ 3 4 (QK)
def QL (T:Txt w K mg):bx P w K mg base "Making" "left_call" 9 m_Making_left_call:=T.m_Making_left_call.ok (k:=8) zj6 λ_ _ _ _ _ _ _ hr=>by
 exact "z i3 ozj5 H l e h R r f l e h R r f l e h tT.d_goals H 6 f p czj6.nd z Czaq N 5 H e h R r f xzgz l e h R r f p"
 rfl
 exact "y E L l K l e h R r f l e h 9 r f l e h 9 r f p"
noncomputable def q9 (c:Str):Option (Al):=if c = "Making" then some m_Making_left_call else none
def zuv (T:Txt w K mg) {c:Str} {m:Al} (h:q9 c=some m):bx P w K mg base c "left_call" 9 m:=by
 unfold q9 at h
 by_cases e0:c = "Making"
 ·rw [zu e0] at h;cases h;rw [e0];exact (QL T).mono (by decide)
 rw [zF e0] at h
 cases h
theorem zj7:aa ["self", "step", "atoms"] ["self", "step"] (zD zdd):=by exact "#"
noncomputable def QM:Aj :=
  (zH (zG (ze (As "let") (ze (zh zq (zd 1) (Ar 1)) (ze (zh zq (zd 1) (Ar 2)) (ze (zd 2) zj))))))
noncomputable def QN:Aj :=
  zA (jU (zX (aM "things" insOf excOf) (zd 0)) (zh zq (zd 1) (Ar 1)) (zt (bJ "Later" h_) (ze (zh zq (zd 1) (Ar 1)) zj))) (QM)
noncomputable def QO:Aj :=
  zA (zO 2 (zt ja (ze (y8 (yH (yu "things_at" lz (zd 0) (ze (zh zq (zd 1) (Ar 3)) zj))) (yu "atom" wu (zd 0) zj)) zj))) (QN)
noncomputable def m_Making_left_let:Al:=zJ 2 3 (QO)
theorem QP (T:Txt w K mg):bx P w K mg base "Making" "left_let" 5 m_Making_left_let:=T.m_Making_left_let.ok (k:=4) zj7 λ_ _ _ _ _ _ _ hr=>by
 exact "z i2 s l"
 refine kX (N:=["self", "step", "atoms"]) rfl (by exact "$zdd") rfl (by decide +kernel) ?_ ?_
 exact "djg ozgB H l e h R r f p A 2wW H p czj7.nd z Czaq N 5 H e h R r f xzgz l e h R r f p"
 rfl
 exact "y E L l K l e h R r f l e h R r f l 6 p"
noncomputable def q_ (c:Str):Option (Al):=if c = "Making" then some m_Making_left_let else none
def zuA (T:Txt w K mg) {c:Str} {m:Al} (h:q_ c=some m):bx P w K mg base c "left_let" 5 m:=by
 unfold q_ at h
 by_cases e0:c = "Making"
 ·rw [zu e0] at h;cases h;rw [e0];exact (QP T).mono (by decide)
 rw [zF e0] at h
 cases h
theorem DK:aa ["kinds", "values", "kind", "value"] ["kinds", "values"] (zD zfw):=by exact "#"
noncomputable def DL:Aj :=
  (jo (mH (ze (zd 0) (ze (zd 1) zj))) (g2 2 3)
  (zV (kP (mB (zh wC (zd 2) (As "any"))) (mB (zh wC (zd 2) (zt iY (ze (zd 3) zj)))))
  (jL "Fault" "word" (As "kind"))
  z0))
noncomputable def pj:Al:=zJ 2 4 (DL)
def zka (T:Txt w K mg):a7 P w K mg base "check_kinds" 3 pj:=T.f_check_kinds.ok (k:=2) DK λ_ _ _ _ _ _ _ hr=>by
 exact "y u 8 l H l R p"
 exact (qC 2 3 rfl DK.nd)
 exact "y j dza8 azbN nzaJ 6 K dzcI nzaJ 6 gzgv l 9 p y qw8 K U"
theorem QQ:aa ["number"] ["number"] (zD zfx):=by exact "#"
noncomputable def QR:Aj :=
  (zH (kO j5 j5 (zX BJ (Ar 1000000000000000000)) (zd 0) (Ar 1000000000000000000)))
noncomputable def DM:Al:=zJ 1 1 (QR)
def zuD (T:Txt w K mg):a7 P w K mg base "in_bounds" 1 DM:=T.f_in_bounds.ok (k:=0) QQ λ_ _ _ _ _ _ _ hr=>by
 exact "y E"
 refine Km wT wT ?_ ?_ ?_
 refine Kq Kw ?_
 exact (uK T.c_NUMBER_BOUND)
 exact "H"
 exact (uK T.c_NUMBER_BOUND)
theorem QS:aa ["number"] ["number"] (zD zfy):=by exact "#"
noncomputable def QT:Aj :=
  (zH (zd 0))
noncomputable def QU:Aj :=
  zA (zV (iJ (mB (zt DM (ze (zd 0) zj))))
  (jL "Fault" "word" (As "wide"))
  z0) (QT)
noncomputable def rd:Al:=zJ 1 1 (QU)
def zgC (T:Txt w K mg):a7 P w K mg base "within_bounds" 3 rd:=T.f_within_bounds.ok (k:=2) QS λ_ _ _ _ _ _ _ hr=>by
 exact "z j dzcJ djx gzuD l H p y qw8 K U y E H"
theorem QV:aa ["values"] ["values"] (zD zfz):=by exact "#"
noncomputable def QW:Aj :=
  (zH (zt rd (ze (zh yo (zh zq (zd 0) (Ar 0)) (zh zq (zd 0) (Ar 1))) zj)))
noncomputable def DN:Al:=zJ 1 1 (QW)
def QX (T:Txt w K mg):a7 P w K mg base "tell_add" 4 DN:=T.f_tell_add.ok (k:=3) QV λ_ _ _ _ _ _ _ hr=>by
 exact "y E gzgC l ! e h H r f e h H r f p"
theorem QY:aa ["values"] ["values"] (zD zfA):=by exact "#"
noncomputable def QZ:Aj :=
  (zH (zt rd (ze (zh wc (zh zq (zd 0) (Ar 0)) (zh zq (zd 0) (Ar 1))) zj)))
noncomputable def DO:Al:=zJ 1 1 (QZ)
def Q0 (T:Txt w K mg):a7 P w K mg base "tell_sub" 4 DO:=T.f_tell_sub.ok (k:=3) QY λ_ _ _ _ _ _ _ hr=>by
 exact "y E gzgC l kzbO e h H r f e h H r f p"
theorem Q1:aa ["values"] ["values"] (zD zfB):=by exact "#"
noncomputable def Q2:Aj :=
  (zH (zt rd (ze (zh CB (zh zq (zd 0) (Ar 0)) (zh zq (zd 0) (Ar 1))) zj)))
noncomputable def DP:Al:=zJ 1 1 (Q2)
def Q3 (T:Txt w K mg):a7 P w K mg base "tell_mul" 4 DP:=T.f_tell_mul.ok (k:=3) Q1 λ_ _ _ _ _ _ _ hr=>by
 exact "y E gzgC l kzqS e h H r f e h H r f p"
theorem Q4:aa ["values"] ["values"] (zD zfC):=by exact "#"
noncomputable def Q5:Aj :=
  (zH (zh jK (zh zq (zd 0) (Ar 0)) (zh zq (zd 0) (Ar 1))))
noncomputable def Q6:Aj :=
  zA (zV (mB (zh yq (zh zq (zd 0) (Ar 1)) (Ar 0)))
  (jL "Fault" "word" (As "nought"))
  z0) (Q5)
noncomputable def DQ:Al:=zJ 1 1 (Q6)
def Q7 (T:Txt w K mg):a7 P w K mg base "tell_div" 3 DQ:=T.f_tell_div.ok (k:=2) Q4 λ_ _ _ _ _ _ _ hr=>by
 exact "z j nyU e h H r f r y qw8 K U y E kzaI e h H r f e h H r f"
theorem Q8:aa ["values"] ["values"] (zD zfD):=by exact "#"
noncomputable def Q9:Aj :=
  (zH (zh yS (zh zq (zd 0) (Ar 0)) (zh zq (zd 0) (Ar 1))))
noncomputable def Q_:Aj :=
  zA (zV (mB (zh yq (zh zq (zd 0) (Ar 1)) (Ar 0)))
  (jL "Fault" "word" (As "nought"))
  z0) (Q9)
noncomputable def DR:Al:=zJ 1 1 (Q_)
def Ra (T:Txt w K mg):a7 P w K mg base "tell_rem" 3 DR:=T.f_tell_rem.ok (k:=2) Q8 λ_ _ _ _ _ _ _ hr=>by
 exact "z j nyU e h H r f r y qw8 K U y E kwe e h H r f e h H r f"
theorem Rb:aa ["truth"] ["truth"] (zD zfE):=by exact "#"
noncomputable def Rc:Aj :=
  (zH (BD (mB (zd 0)) (Ar 1) (Ar 0)))
noncomputable def vF:Al:=zJ 1 1 (Rc)
def zkh (T:Txt w K mg):a7 P w K mg base "number_of" 1 vF:=T.f_number_of.ok (k:=0) Rb λ_ _ _ _ _ _ _ hr=>by
 exact "y E Zzpe djx H r r"
theorem Rf:aa ["values"] ["values"] (zD zfF):=by exact "#"
noncomputable def Rg:Aj :=
  (zH (zt vF (ze (zh j5 (zh zq (zd 0) (Ar 0)) (zh zq (zd 0) (Ar 1))) zj)))
noncomputable def DS:Al:=zJ 1 1 (Rg)
def Rh (T:Txt w K mg):a7 P w K mg base "tell_less" 2 DS:=T.f_tell_less.ok (k:=1) Rf λ_ _ _ _ _ _ _ hr=>by
 exact "y E gzkh l"
 refine j2 wT ?_ ?_
 exact "e h H r f e h H r f p"
theorem Ri:aa ["values"] ["values"] (zD zfG):=by exact "#"
noncomputable def Rj:Aj :=
  (zH (zt vF (ze (zh oK (zh zq (zd 0) (Ar 0)) (zh zq (zd 0) (Ar 1))) zj)))
noncomputable def DT:Al:=zJ 1 1 (Rj)
def Rk (T:Txt w K mg):a7 P w K mg base "tell_same" 2 DT:=T.f_tell_same.ok (k:=1) Ri λ_ _ _ _ _ _ _ hr=>by
 exact "y E gzkh l Gzjo e h H r f e h H r f p"
theorem Rl:aa ["values"] ["values"] (zD zfH):=by exact "#"
noncomputable def DU:Aj :=
  (zH (zh wc (zh zq (zd 0) (Ar 0)) (Ar 1)))
noncomputable def DV:Aj :=
  zA (zV (mB (zh j5 (zh zq (zd 0) (Ar 0)) (Ar 1)))
  (jL "Fault" "word" (As "low"))
  z0) (DU)
noncomputable def rh:Al:=zJ 1 1 (DV)
def Rm (T:Txt w K mg):a7 P w K mg base "tell_down" 3 rh:=T.f_tell_down.ok (k:=2) Rl λ_ _ _ _ _ _ _ hr=>by
 exact "z j DwT e h H r f r y qw8 K U y E kzbO e h H r f r"
theorem Rn:aa ["values"] ["values"] (zD zfI):=by exact "#"
noncomputable def Ro:Aj :=
  (zH (zt iY (ze (zh zq (zd 0) (Ar 0)) zj)))
noncomputable def DW:Al:=zJ 1 1 (Ro)
def Rp (T:Txt w K mg):a7 P w K mg base "tell_kind" 2 DW:=T.f_tell_kind.ok (k:=1) Rn λ_ _ _ _ _ _ _ hr=>by
 exact "y E gzgv l e h H r f p"
theorem Rq:aa ["values"] ["values"] (zD zfJ):=by exact "#"
noncomputable def Rr:Aj :=
  (zH (zh yo (zG (ze (zh zq (zd 0) (Ar 0)) zj)) (zh zq (zd 0) (Ar 1))))
noncomputable def DX:Al:=zJ 1 1 (Rr)
def Rt (T:Txt w K mg):a7 P w K mg base "tell_front" 1 DX:=T.f_tell_front.ok (k:=0) Rq λ_ _ _ _ _ _ _ hr=>by
 exact "y E ! L l e h H r f p e h H r f"
theorem Ru:aa ["row"] ["row"] (zD zfK):=by exact "#"
noncomputable def Rv:Aj :=
  (zH (zd 0))
noncomputable def Rx:Aj :=
  zA (zV (mB (zh yq (zt yr (ze (zd 0) zj)) (Ar 0)))
  (jL "Fault" "word" (As "empty"))
  z0) (Rv)
noncomputable def vG:Al:=zJ 1 1 (Rx)
def zko (T:Txt w K mg):a7 P w K mg base "filled" 3 vG:=T.f_filled.ok (k:=2) Ru λ_ _ _ _ _ _ _ hr=>by
 exact "z j nyU v l H p r y qw8 K U y E H"
theorem Ry:aa ["values"] ["values"] (zD zfL):=by exact "#"
noncomputable def Rz:Aj :=
  (zH (zh zq (zt vG (ze (zh zq (zd 0) (Ar 0)) zj)) (Ar 0)))
noncomputable def DY:Al:=zJ 1 1 (Rz)
def RA (T:Txt w K mg):a7 P w K mg base "tell_head" 4 DY:=T.f_tell_head.ok (k:=3) Ry λ_ _ _ _ _ _ _ hr=>by
 exact "y E e h gzko l e h H r f p r f"
theorem RB:aa ["values"] ["values"] (zD zfM):=by exact "#"
noncomputable def RC:Aj :=
  (zH (iO (zt vG (ze (zh zq (zd 0) (Ar 0)) zj)) (c_ (Ar 1)) hG))
noncomputable def DZ:Al:=zJ 1 1 (RC)
def RD (T:Txt w K mg):a7 P w K mg base "tell_rest" 4 DZ:=T.f_tell_rest.ok (k:=3) RB λ_ _ _ _ _ _ _ hr=>by
 exact "y E ZzcO gzko l e h H r f p dzbP r czex"
theorem RE:aa ["values"] ["values"] (zD zfN):=by exact "#"
noncomputable def RF:Aj :=
  (zH (zt yr (ze (zh zq (zd 0) (Ar 0)) zj)))
noncomputable def D0:Al:=zJ 1 1 (RF)
def RH (T:Txt w K mg):a7 P w K mg base "tell_many" 1 D0:=T.f_tell_many.ok (k:=0) RE λ_ _ _ _ _ _ _ hr=>by
 exact "y E v l e h H r f p"
theorem RI:aa ["row", "number"] ["row", "number"] (zD zfO):=by exact "#"
noncomputable def RJ:Aj :=
  (zH (zd 1))
noncomputable def RK:Aj :=
  zA (zV (iJ (mB (kO oLe j5 (Ar 0) (zd 1) (zt yr (ze (zd 0) zj)))))
  (jL "Fault" "word" (As "place"))
  z0) (RJ)
noncomputable def vH:Al:=zJ 2 2 (RK)
def zks (T:Txt w K mg):a7 P w K mg base "place_in" 3 vH:=T.f_place_in.ok (k:=2) RI λ_ _ _ _ _ _ _ hr=>by
 exact "z j dzcJ"
 refine Ko KA wT ?_ ?_ ?_
 exact "r R v l H p y qw8 K U y E R"
theorem zkt:aa ["values", "row"] ["values"] (zD zfP):=by exact "#"
noncomputable def RL:Aj :=
  (zH (zh zq (zd 1) (zt vH (ze (zd 1) (ze (zh zq (zd 0) (Ar 1)) zj)))))
noncomputable def RM:Aj :=
  zA (zO 1 (zh zq (zd 0) (Ar 0))) (RL)
noncomputable def D1:Al:=zJ 1 2 (RM)
def RN (T:Txt w K mg):a7 P w K mg base "tell_item" 4 D1:=T.f_tell_item.ok (k:=3) zkt λ_ _ _ _ _ _ _ hr=>by
 exact "z i1 e h H r f czkt.nd y E e h R gzks l R l e h H r f p f"
theorem zgG:aa ["values", "row", "place"] ["values"] (zD zfQ):=by exact "#"
noncomputable def RO:Aj :=
  (zH (zh yo (zh yo (iO (zd 1) hG (c_ (zd 2))) (zG (ze (zh zq (zd 0) (Ar 2)) zj))) (iO (zd 1) (c_ (zh yo (zd 2) (Ar 1))) hG)))
noncomputable def RP:Aj :=
  zA (zO 2 (zt vH (ze (zd 1) (ze (zh zq (zd 0) (Ar 1)) zj)))) (RO)
noncomputable def RQ:Aj :=
  zA (zO 1 (zh zq (zd 0) (Ar 0))) (RP)
noncomputable def D2:Al:=zJ 1 3 (RQ)
def RR (T:Txt w K mg):a7 P w K mg base "tell_put" 4 D2:=T.f_tell_put.ok (k:=3) zgG λ_ _ _ _ _ _ _ hr=>by
 exact "z i1 e h H r f czgG.nd z i2 gzks l R l e h H r f p czgG.nd y E ! ! ZzcO R czex dzbP 6 L l e h H r f p ZzcO R dzbP ! 6 r czex"
theorem zkw:aa ["values", "record"] ["values"] (zD zfR):=by exact "#"
noncomputable def RS:Aj :=
  (zH (zh zq (zd 1) (zh zq (zd 0) (Ar 1))))
noncomputable def RT:Aj :=
  zA (zV (mB (zh (yI true) (zh zq (zd 0) (Ar 1)) (zd 1)))
  (jL "Fault" "word" (As "field"))
  z0) (RS)
noncomputable def RU:Aj :=
  zA (zO 1 (zh zq (zd 0) (Ar 0))) (RT)
noncomputable def D3:Al:=zJ 1 2 (RU)
def RV (T:Txt w K mg):a7 P w K mg base "tell_field" 3 D3:=T.f_tell_field.ok (k:=2) zkw λ_ _ _ _ _ _ _ hr=>by
 exact "z i1 e h H r f czkw.nd z j nzbl e h H r f R y qw8 K U y E e h R e h H r f f"
theorem zky:aa ["values", "record"] ["values"] (zD zfS):=by exact "#"
noncomputable def RW:Aj :=
  (zH (zd 1))
noncomputable def RX:Aj :=
  zA (jU (zd 1) (zh zq (zd 0) (Ar 1)) (zh zq (zd 0) (Ar 2))) (RW)
noncomputable def RY:Aj :=
  zA (zO 1 (zt vj (ze (zh zq (zd 0) (Ar 0)) zj))) (RX)
noncomputable def D4:Al:=zJ 1 2 (RY)
def RZ (T:Txt w K mg):a7 P w K mg base "tell_set" 1 D4:=T.f_tell_set.ok (k:=0) zky λ_ _ _ _ _ _ _ hr=>by
 exact "z i1"
 refine y7 Nv T.b_dict uL ?_
 exact "l e h H r f p czky.nd z Czaq N R e h H r f e h H r f"
 rfl
 exact "y E R"
noncomputable def ri (y:Str):Option (Al):=if y = "tell_add" then some DN else if y = "tell_sub" then some DO else if y = "tell_mul" then some DP else if y = "tell_div" then some DQ else if y = "tell_rem" then some DR else if y = "tell_less" then some DS else if y = "tell_same" then some DT else if y = "tell_down" then some rh else if y = "tell_kind" then some DW else if y = "tell_front" then some DX else if y = "tell_head" then some DY else if y = "tell_rest" then some DZ else if y = "tell_many" then some D0 else if y = "tell_item" then some D1 else if y = "tell_put" then some D2 else if y = "tell_field" then some D3 else if y = "tell_set" then some D4 else none
def R0 (T:Txt w K mg) {y:Str}{m:Al}(h:ri y=some m):a7 P w K mg base y 4 m:=by
 unfold ri at h
 by_cases e0:y = "tell_add"
 ·rw [zu e0] at h;cases h;rw [e0];exact (QX T).mono (by decide)
 rw [zF e0] at h
 by_cases e1:y = "tell_sub"
 ·rw [zu e1] at h;cases h;rw [e1];exact (Q0 T).mono (by decide)
 rw [zF e1] at h
 by_cases e2:y = "tell_mul"
 ·rw [zu e2] at h;cases h;rw [e2];exact (Q3 T).mono (by decide)
 rw [zF e2] at h
 by_cases e3:y = "tell_div"
 ·rw [zu e3] at h;cases h;rw [e3];exact (Q7 T).mono (by decide)
 rw [zF e3] at h
 by_cases e4:y = "tell_rem"
 ·rw [zu e4] at h;cases h;rw [e4];exact (Ra T).mono (by decide)
 rw [zF e4] at h
 by_cases e5:y = "tell_less"
 ·rw [zu e5] at h;cases h;rw [e5];exact (Rh T).mono (by decide)
 rw [zF e5] at h
 by_cases e6:y = "tell_same"
 ·rw [zu e6] at h;cases h;rw [e6];exact (Rk T).mono (by decide)
 rw [zF e6] at h
 by_cases e7:y = "tell_down"
 ·rw [zu e7] at h;cases h;rw [e7];exact (Rm T).mono (by decide)
 rw [zF e7] at h
 by_cases e8:y = "tell_kind"
 ·rw [zu e8] at h;cases h;rw [e8];exact (Rp T).mono (by decide)
 rw [zF e8] at h
 by_cases e9:y = "tell_front"
 ·rw [zu e9] at h;cases h;rw [e9];exact (Rt T).mono (by decide)
 rw [zF e9] at h
 by_cases e10:y = "tell_head"
 ·rw [zu e10] at h;cases h;rw [e10];exact (RA T).mono (by decide)
 rw [zF e10] at h
 by_cases e11:y = "tell_rest"
 ·rw [zu e11] at h;cases h;rw [e11];exact (RD T).mono (by decide)
 rw [zF e11] at h
 by_cases e12:y = "tell_many"
 ·rw [zu e12] at h;cases h;rw [e12];exact (RH T).mono (by decide)
 rw [zF e12] at h
 by_cases e13:y = "tell_item"
 ·rw [zu e13] at h;cases h;rw [e13];exact (RN T).mono (by decide)
 rw [zF e13] at h
 by_cases e14:y = "tell_put"
 ·rw [zu e14] at h;cases h;rw [e14];exact (RR T).mono (by decide)
 rw [zF e14] at h
 by_cases e15:y = "tell_field"
 ·rw [zu e15] at h;cases h;rw [e15];exact (RV T).mono (by decide)
 rw [zF e15] at h
 by_cases e16:y = "tell_set"
 ·rw [zu e16] at h;cases h;rw [e16];exact (RZ T).mono (by decide)
 rw [zF e16] at h
 cases h
theorem R1:aa ["thing"] ["thing"] (zD zfT):=by exact "#"
noncomputable def D5:Aj :=
  (zH (jF zj))
noncomputable def D6:Aj :=
  zA (zV (mB (zt (wD isT) (ze (zd 0) (ze (mC (.ty "dict")) zj))))
  (zH (zX C1 (zd 0)))
  z0) (D5)
noncomputable def D7:Aj :=
  zA (zV (mB (zt (wD isT) (ze (zd 0) (ze (mC (.ty "tuple")) zj))))
  (zH (zt oJ (ze (zd 0) zj)))
  z0) (D6)
noncomputable def rj:Al:=zJ 1 1 (D7)
def zvK (T:Txt w K mg):a7 P w K mg base "things_within" 1 rj:=T.f_things_within.ok (k:=0) R1 λ_ _ _ _ _ _ _ hr=>by
 exact "z j djx F l H l 4 p y E"
 refine y7 (MP rfl) T.b_list B5 ?_
 exact "l H p U z j djx F l H l"
 exact (qy T.b_dict uL)
 exact "p y E"
 refine M9 rfl T.b_list ?_
 exact "H U y E dj1 p"
theorem zdC:aa ["thing", "found", "place"] ["thing"] (zD zfU):=by exact "#"
noncomputable def R3:Aj :=
  (zH (zd 1))
noncomputable def R4:Aj :=
  zA (qD (mB (zh j5 (zd 2) (zt yr (ze (zd 1) zj))))
  (zA (yX (y4 uI (zd 1) (zt rj (ze (zh zq (zd 1) (zd 2)) zj))))
  (mG 2 gq (Ar 1)))) (R3)
noncomputable def R5:Aj :=
  zA (zO 2 (Ar 0)) (R4)
noncomputable def R6:Aj :=
  zA (zO 1 (jF (ze (zd 0) zj))) (R5)
noncomputable def vI:Al:=zJ 1 3 (R6)
def zvP (T:Txt w K mg):a7 P w K mg base "all_within" 2 vI:=T.f_all_within.ok (k:=1) zdC λ_ _ _ _ _ _ _ hr=>by
 exact "z i1 dj1 l H p czdC.nd z i2 r czdC.nd z 1 DwT 6 v l R p z djG azp3 R gzvK l e h R 6 f p y"
 refine uF 2 uE ?_ zdC.nd
 exact "r y E R"
theorem R7:aa ["value"] ["value"] (zD zfV):=by exact "#"
noncomputable def R8:Aj :=
  (zH (zt yr (ze (zt vI (ze (zd 0) zj)) zj)))
noncomputable def vJ:Al:=zJ 1 1 (R8)
def zvS (T:Txt w K mg):a7 P w K mg base "parts" 3 vJ:=T.f_parts.ok (k:=2) R7 λ_ _ _ _ _ _ _ hr=>by
 exact "y E v l gzvP l H p p"
theorem zgJ:aa ["self", "values", "tell", "told"] ["self", "values"] (zD zfW):=by exact "#"
noncomputable def D8:Aj :=
  (zH (zd 3))
noncomputable def D9:Aj :=
  zA (zV (mB (zh iL (zt vJ (ze (zd 3) zj)) (Ar 60)))
  (jL "Fault" "word" (As "large"))
  z0) (D8)
noncomputable def D_:Aj :=
  zA (zO 3 (uC ri (zd 2) (ze (zd 1) zj))) (D9)
noncomputable def Ea:Aj :=
  zA (zO 2 (zh zq (zX (iR w5 w6) (zX (aM "word" insOf excOf) (zd 0))) (Ar 1))) (D_)
noncomputable def Eb:Aj :=
  zA (yX (zt pj (ze (zh zq (zX (iR w5 w6) (zX (aM "word" insOf excOf) (zd 0))) (Ar 0)) (ze (zd 1) zj)))) (Ea)
noncomputable def m_Op_answer:Al:=zJ 2 4 (Eb)
def R9 (T:Txt w K mg):bx P w K mg base "Op" "answer" 5 m_Op_answer:=T.m_Op_answer.ok (k:=4) zgJ λ_ _ _ _ _ _ _ hr=>by
 exact "z djG gzka l e h TzeE tT.d_word H r f l R p z i2 e h TzeE tT.d_word H r f czgJ.nd z i3"
 refine KS (λy m h=>R0 T h) ?_ (hr.mono (by decide)) zE ?_
 exact "6 l R p czgJ.nd z j Dzes gzvS l 9 p"
 exact (uK T.c_MOST_PARTS)
 exact "y qw8 K U y E 9"
noncomputable def vK (c:Str):Option (Al):=if c = "Op" then some m_Op_answer else none
def zvU (T:Txt w K mg) {c:Str} {m:Al} (h:vK c=some m):bx P w K mg base c "answer" 5 m:=by
 unfold vK at h
 by_cases e0:c = "Op"
 ·rw [zu e0] at h;cases h;rw [e0];exact (R9 T).mono (by decide)
 rw [zF e0] at h
 cases h
theorem R_:aa ["self", "word"] ["self", "word"] (zD zfX):=by exact "#"
noncomputable def Ec:Aj :=
  (sFld "many" insOf (zd 0) (zt yr (ze (zh zq (zX (iR w5 w6) (zd 1)) (Ar 0)) zj)))
noncomputable def Ed:Aj :=
  zA (sFld "word" insOf (zd 0) (zd 1)) (Ec)
noncomputable def vL:Al:=zJ 2 2 (Ed)
def zvW (T:Txt w K mg):gK P w K mg base "Op" 1 vL:=T.n_Op.ok (k:=0) R_ λ_ _ _ _ _ _ _ hr=>by
 exact "z IT.d_word H R y IT.d_many H v l e h TzeE R r f p"
theorem Sa:aa ["word"] ["word"] (zD zfY):=by exact "#"
noncomputable def Ee:Aj :=
  (zH (zt (bJ "Op" vL) (ze (zd 0) zj)))
noncomputable def Ef:Aj :=
  zA (zV (mB (zX (oA true w5 w6 zgi) (zd 0)))
  (jL "NoOp" "word" (zd 0))
  z0) (Ee)
noncomputable def rk:Al:=zJ 1 1 (Ef)
def zvY (T:Txt w K mg):a7 P w K mg base "op_of" 3 rk:=T.f_op_of.ok (k:=2) Sa λ_ _ _ _ _ _ _ hr=>by
 exact "z j Tzp2 H y qzsr H U y E xzvW l H p"
theorem Sb:aa ["self", "step"] ["self", "step"] (zD zde):=by exact "#"
noncomputable def Sd:Aj :=
  (zH (yu "answer" vK (zt rk (ze (zh zq (zd 1) (Ar 2)) zj)) (ze (zt ja (ze (y8 (yH (yu "things_at" lz (zd 0) (ze (zh zq (zd 1) (Ar 3)) zj))) (zX (aM "value" insOf excOf) (zd 0))) zj)) zj)))
noncomputable def m_Making_answer_ahead:Al:=zJ 2 2 (Sd)
theorem Se (T:Txt w K mg):bx P w K mg base "Making" "answer_ahead" 6 m_Making_answer_ahead:=T.m_Making_answer_ahead.ok (k:=5) Sb λ_ _ _ _ _ _ _ hr=>by
 exact "y E ozvU gzvY l e h R r f p l s l"
 refine kX (N:=["self", "step"]) rfl (by exact "$zde") rfl (by decide +kernel) ?_ ?_
 exact "djg ozgB H l e h R r f p A tT.d_value H p p"
noncomputable def rl (c:Str):Option (Al):=if c = "Making" then some m_Making_answer_ahead else none
def Sf (T:Txt w K mg) {c:Str} {m:Al} (h:rl c=some m):bx P w K mg base c "answer_ahead" 6 m:=by
 unfold rl at h
 by_cases e0:c = "Making"
 ·rw [zu e0] at h;cases h;rw [e0];exact (Se T).mono (by decide)
 rw [zF e0] at h
 cases h
theorem zkM:aa ["self", "end", "place", "aim"] ["self", "end", "place"] (zD zfZ):=by exact "#"
noncomputable def Sg:Aj :=
  (zH (zG (ze (As "go") (ze (zh zq (zd 3) (Ar 0)) (ze (zh zq (zd 3) (Ar 1)) zj)))))
noncomputable def Sh:Aj :=
  zA (zO 3 (yu "left_aim" q8 (zd 0) (ze (zh zq (zd 1) (Ar 1)) (ze (zh zq (zd 1) (Ar 2)) (ze (zh zq (zX (aM "goals" insOf excOf) (zd 0)) (zd 2)) zj))))) (Sg)
noncomputable def m_Making_left_go:Al:=zJ 3 4 (Sh)
def Si (T:Txt w K mg):bx P w K mg base "Making" "left_go" 9 m_Making_left_go:=T.m_Making_left_go.ok (k:=8) zkM λ_ _ _ _ _ _ _ hr=>by
 exact "z i3 ozj5 H l e h R r f l e h R r f l e h tT.d_goals H 6 f p czkM.nd y E L l K l e h 9 r f l e h 9 r f p"
noncomputable def rm (c:Str):Option (Al):=if c = "Making" then some m_Making_left_go else none
def zv6 (T:Txt w K mg) {c:Str} {m:Al} (h:rm c=some m):bx P w K mg base c "left_go" 9 m:=by
 unfold rm at h
 by_cases e0:c = "Making"
 ·rw [zu e0] at h;cases h;rw [e0];exact (Si T).mono (by decide)
 rw [zF e0] at h
 cases h
theorem Sj:aa ["self"] ["self"] (zD zf0):=by exact "#"
noncomputable def Sk:Aj :=
  (zH (mC (.bl true)))
noncomputable def m_Known_ahead:Al:=zJ 1 1 (Sk)
def Sl (T:Txt w K mg):bx P w K mg base "Known" "ahead" 1 m_Known_ahead:=T.m_Known_ahead.ok (k:=0) Sj λ_ _ _ _ _ _ _ hr=>by
 exact "y E czaF"
theorem Sm:aa ["self"] ["self"] (zD zf1):=by exact "#"
noncomputable def Sn:Aj :=
  (zH (mC (.bl false)))
noncomputable def m_Later_ahead:Al:=zJ 1 1 (Sn)
def So (T:Txt w K mg):bx P w K mg base "Later" "ahead" 1 m_Later_ahead:=T.m_Later_ahead.ok (k:=0) Sm λ_ _ _ _ _ _ _ hr=>by
 exact "y E czaF"
noncomputable def vM (c:Str):Option (Al):=if c = "Known" then some m_Known_ahead else if c = "Later" then some m_Later_ahead else none
def zwd (T:Txt w K mg) {c:Str} {m:Al} (h:vM c=some m):bx P w K mg base c "ahead" 1 m:=by
 unfold vM at h
 by_cases e0:c = "Known"
 ·rw [zu e0] at h;cases h;rw [e0];exact (Sl T).mono (by decide)
 rw [zF e0] at h
 by_cases e1:c = "Later"
 ·rw [zu e1] at h;cases h;rw [e1];exact (So T).mono (by decide)
 rw [zF e1] at h
 cases h
theorem Sr:aa ["value"] ["value"] (zD zf2):=by exact "#"
noncomputable def Eg:Aj :=
  (zH (zh wC (zd 0) (Ar 0)))
noncomputable def Eh:Aj :=
  zA (yX (zt pj (ze (zG (ze (As "number") zj)) (ze (zG (ze (zd 0) zj)) zj)))) (Eg)
noncomputable def mT:Al:=zJ 1 1 (Eh)
def Ss (T:Txt w K mg):a7 P w K mg base "chooses_first" 4 mT:=T.f_chooses_first.ok (k:=3) Sr λ_ _ _ _ _ _ _ hr=>by
 exact "z djG gzka l L l K p l L l H p p y E GzaJ H r"
theorem Ei:aa ["block", "aims"] ["block"] (zD zb8):=by exact "#"
noncomputable def Su:Aj :=
  (zH (zt ja (ze (oV (yH (zd 1)) (mB (zh wj (zd 0) (mC .non))) (zd 0)) zj)))
noncomputable def Sv:Aj :=
  zA (zO 1 (y8 (yH (zt (lu 5) (ze (zd 0) zj))) (zt iX (ze (zd 0) zj)))) (Su)
noncomputable def pk:Al:=zJ 1 2 (Sv)
theorem zgN (T:Txt w K mg):a7 P w K mg base "aims_of" 8 pk:=T.f_aims_of.ok (k:=7) Ei λ_ _ _ _ _ _ _ hr=>by
 exact "z"
 refine C5 1 (N:=["block", "aims"]) rfl (by exact "$zb8") rfl (by decide +kernel) ?_ ?_ Ei.nd rfl (by exact "(") (by exact ")") (by rfl)
 exact "djg V l H p A Mzgt l H p y E s l"
 refine Nx (N:=["block", "aims"]) rfl (by exact "%zb8") rfl (by decide +kernel) ?_ ?_ ?_
 exact "djg R A DwX H cjE A H p"
theorem Ej:aa ["self", "end", "value", "place", "first", "fault"] ["self", "end", "value", "place"] (zD zf3):=by exact "#"
noncomputable def Sw (mr:Al):Aj :=
  (zH (yu "made_block" (wZ "Making" mr) (zd 0) (ze (zh zq (zd 1) (Ar 3)) (ze (zh yo (zd 3) (zt yr (ze (zt pk (ze (zh zq (zd 1) (Ar 2)) zj)) zj))) zj))))
noncomputable def Sx (mr:Al):Aj :=
  zA (zV (mB (zd 4))
  (zH (yu "made_block" (wZ "Making" mr) (zd 0) (ze (zh zq (zd 1) (Ar 2)) (ze (zd 3) zj))))
  z0) (Sw mr)
noncomputable def Sy (mr:Al):Aj :=
  zA (wU 4 5 "Fault" (gr mT (ze (zd 2) zj))
  (zH (zG (ze (zG zj) (ze (zG (ze (As "fail") (ze (zX (aM "word" insOf excOf) (zd 5)) zj))) zj))))) (Sx mr)
noncomputable def m_Making_decided (mr:Al):Al:=zJ 4 6 (Sy mr)
theorem zwl (T:Txt w K mg) {k:Nat} (hk:9<=k) {mr:Al} (lp:bx P w K mg base "Making" "made_block" k mr):bx P w K mg base "Making" "decided" (k+1) (m_Making_decided mr):=T.m_Making_decided.ok (k:=k+0) Ej λ_ _ _ _ _ _ _ hr=>by
 exact "z"
 refine B0 4 5 T.x_Fault.tr ?_ ?_ Ej.nd
 refine BW (Ss T) (hr.mono (by omega)) ?_
 exact "l 6 p"
 intro _
 exact "y E L l L p l L l K l tT.d_word b5 p p z j djx b4 y E J H l e h R r f l 9 p U y E J H l e h R r f l ! 9 v l OzgN l e h R r f p p p"
theorem zdG:aa ["self", "end", "place", "thing", "first", "second"] ["self", "end", "place"] (zD zf4):=by exact "#"
noncomputable def Sz (mr:Al):Aj :=
  (zH (zG (ze (zG zj) (ze (zG (ze (As "if") (ze (yu "atom" wu (zd 3) zj) (ze (zd 4) (ze (zd 5) zj))))) zj))))
noncomputable def SA (mr:Al):Aj :=
  zA (zO 5 (yu "made_block" (wZ "Making" mr) (zd 0) (ze (zh zq (zd 1) (Ar 3)) (ze (zh yo (zd 2) (zt yr (ze (zt pk (ze (zh zq (zd 1) (Ar 2)) zj)) zj))) zj)))) (Sz mr)
noncomputable def SD (mr:Al):Aj :=
  zA (zO 4 (yu "made_block" (wZ "Making" mr) (zd 0) (ze (zh zq (zd 1) (Ar 2)) (ze (zd 2) zj)))) (SA mr)
noncomputable def Ek (mr:Al):Aj :=
  zA (zV (mB (yu "ahead" vM (zd 3) zj))
  (zH (yu "decided" (wZ "Making" (m_Making_decided mr)) (zd 0) (ze (zd 1) (ze (zX (aM "value" insOf excOf) (zd 3)) (ze (zd 2) zj)))))
  z0) (SD mr)
noncomputable def SE (mr:Al):Aj :=
  zA (zV (mB (zh yq (zh zq (zd 1) (Ar 0)) (As "give")))
  (zH (zG (ze (zG zj) (ze (zG (ze (As "give") (ze (yu "atom" wu (zd 3) zj) zj))) zj))))
  z0) (Ek mr)
noncomputable def SF (mr:Al):Aj :=
  zA (zO 3 (zt q0 (ze (zh zq (zd 1) (Ar 1)) (ze (zX (aM "things" insOf excOf) (zd 0)) zj)))) (SE mr)
noncomputable def SG (mr:Al):Aj :=
  zA (zV (mB (zh yq (zh zq (zd 1) (Ar 0)) (As "go")))
  (zH (zG (ze (zG zj) (ze (yu "left_go" rm (zd 0) (ze (zd 1) (ze (zd 2) zj))) zj))))
  z0) (SF mr)
noncomputable def El (mr:Al):Aj :=
  zA (zV (mB (zh yq (zh zq (zd 1) (Ar 0)) (As "fail")))
  (zH (zG (ze (zG zj) (ze (zd 1) zj))))
  z0) (SG mr)
noncomputable def m_Making_made_end (mr:Al):Al:=zJ 3 6 (El mr)
theorem zws (T:Txt w K mg) {k:Nat} (hk:9<=k) {mr:Al} (lp:bx P w K mg base "Making" "made_block" k mr):bx P w K mg base "Making" "made_end" (k+2) (m_Making_made_end mr):=T.m_Making_made_end.ok (k:=k+1) zdG λ_ _ _ _ _ _ _ hr=>by
 exact "z j nyU e h R r f K y E L l L p l R p U z j nyU e h R r f K y E L l L p l Qzv6 H l R l 6 p p U z i3 Ozj2 l e h R r f l 5 H p czdG.nd z j nyU e h R r f K y E L l L p l L l K l Szdt 9 p p U z j djx Szwd 9 y E Yzwl H l R l tT.d_value 9 l 6 p U z i4 J H l e h R r f l 6 p czdG.nd z i5 J H l e h R r f l ! 6 v l OzgN l e h R r f p p p czdG.nd y E L l L p l L l K l Szdt 9 l b4 l b5 p p"
theorem zaT:aa ["self", "block", "place", "left", "step", "fault", "behind"] ["self", "block", "place"] (zD zf5):=by exact "#"
noncomputable def SH (mr:Al):Aj :=
  (zH (zG (ze (zh yo (zt ja (ze (zd 3) zj)) (zh zq (zd 6) (Ar 0))) (ze (zh zq (zd 6) (Ar 1)) zj))))
noncomputable def vN (mr:Al):Aj :=
  zA (zO 6 (yu "made_end" (wZ "Making" (m_Making_made_end mr)) (zd 0) (ze (zh zq (zd 1) (Ar 1)) (ze (zd 2) zj)))) (SH mr)
noncomputable def SI (mr:Al):Aj :=
  zA (jo (yH (zh zq (zd 1) (Ar 0))) (gN 4)
  (zV (mB (zh yq (zh zq (zd 4) (Ar 0)) (As "call")))
  (zA (yX (y4 jh (zd 3) (yu "left_call" q9 (zd 0) (ze (zd 4) (ze (zd 2) zj)))))
  (mG 2 gq (Ar 1)))
  (zV (mB (zh (yI false) (zh zq (zd 4) (Ar 1)) (zX (aM "later" insOf excOf) (zd 0))))
  (yX (y4 jh (zd 3) (yu "left_let" q_ (zd 0) (ze (zd 4) zj))))
  (mR 5 "Fault" (zX (aM "things" insOf excOf) (zd 0)) (zh zq (zd 4) (Ar 1)) (gz "Known" w9 (gu "answer_ahead" rl (zd 0) (ze (zd 4) zj)))
  (zH (zG (ze (zt ja (ze (zd 3) zj)) (ze (zG (ze (As "fail") (ze (zX (aM "word" insOf excOf) (zd 5)) zj))) zj)))))))) (vN mr)
noncomputable def vO (mr:Al):Aj :=
  zA (zO 3 (jF zj)) (SI mr)
noncomputable def m_Making_made_block (mr:Al):Al:=zJ 3 7 (vO mr)
theorem SJ (T:Txt w K mg) {k:Nat} (hk:9<=k) {mr:Al} (lp:bx P w K mg base "Making" "made_block" k mr):bx P w K mg base "Making" "made_block" (k+3) (m_Making_made_block mr):=T.m_Making_made_block.ok (k:=k+2) zaT λ_ _ _ _ _ _ _ hr=>by
 exact "z i3 dj1 p czaT.nd z u djg e h R r f"
 exact (wq 4 zaT.nd)
 exact "y j nyU e h b4 r f K z djG awg 9 Qzuv H l b4 l 6 p y"
 refine uF 2 uE ?_ zaT.nd
 exact "r y j nzbk e h b4 r f tT.d_later H y djG awg 9 QzuA H l b4 p y"
 refine OH 5 (zm hr) T.x_Fault.tr ?_ ?_ ?_ ?_ zaT.nd
 exact "5 H e h b4 r f"
 refine OG (zgy T) (hr.mono (by omega)) ?_
 refine Lu (λc m h=>Sf T h) ?_ (hr.mono (by omega)) ?_
 exact "H l b4 p"
 intro _
 exact "y E L l s l 9 p l L l K l tT.d_word b5 p p z i6 Yzws H l e h R r f l 6 p czaT.nd y E L l ! s l 9 p e h b6 r f l e h b6 r f p"
noncomputable def wv:Nat->Al
 | 0=>zJ 3 7 qG
 | n+1=>m_Making_made_block (wv n)
theorem Em (T:Txt w K mg):∀n,bx P w K mg base "Making" "made_block" (9+1+3*n) (wv n)
 | 0=>T.m_Making_made_block.ok (k:=9) zaT λf aX A outer s H E hr=>va
 | n+1=>(SJ T (by omega) (Em T n)).mono (by omega)
theorem zkU:aa ["ring", "key", "function", "form", "making"] ["ring", "key", "function", "form"] (zD zf6):=by exact "#"
noncomputable def En:Aj :=
  (zH (zG (ze (yu "name_for" pf (zd 0) (ze (zd 1) zj)) (ze (zt lq (ze (zd 2) (ze (zh zq (zd 3) (Ar 1)) zj))) (ze (yu "made_block" (wZ "Making" (wv 4)) (zd 4) (ze (zh zq (zd 2) (Ar 2)) (ze (Ar 0) zj))) zj)))))
noncomputable def Eo:Aj :=
  zA (zO 4 (zt (bJ "Making" ph) (ze (zd 0) (ze (zd 2) (ze (zd 3) (ze (zh zq (zd 1) (Ar 2)) zj)))))) (En)
noncomputable def jV:Al:=zJ 4 5 (Eo)
def zww (T:Txt w K mg):a7 P w K mg base "made_function" 23 jV:=T.f_made_function.ok (k:=22) zkU λ_ _ _ _ _ _ _ hr=>by
 exact "z i4 xzub l H l 6 l 9 l e h R r f p czkU.nd y E L l ozgx H l R p l gzdi l 6 l e h 9 r f p l"
 refine jb (λc m h=>vp (Em T 4) h) ?_ (hr.mono (by decide)) zE ?_
 exact "b4 l e h 6 r f l r p p"
theorem zaU:aa ["program", "parting", "known", "limit", "row", "functions", "forms", "ring", "made", "key"] ["program", "parting", "known", "limit"] (zD zf7):=by exact "#"
noncomputable def SK:Aj :=
  (zH (zG (ze (zt ja (ze (zd 8) zj)) (ze (zt ja (ze (zX (aM "met" insOf excOf) (zd 7)) zj)) zj))))
noncomputable def Ep:Aj :=
  zA (qD (mB (zh j5 (zt yr (ze (zd 8) zj)) (zt yr (ze (zX (aM "met" insOf excOf) (zd 7)) zj))))
  (zA (zO 9 (zh (aS zq) (zX (aM "met" insOf excOf) (zd 7)) (zt yr (ze (zd 8) zj))))
  (yX (y4 jh (zd 8) (zt jV (ze (zd 7) (ze (zd 9) (ze (zh (aS zq) (zd 5) (zh (aS zq) (zd 9) (Ar 0))) (ze (zh (aS zq) (zd 6) (zG (ze (zh (aS zq) (zd 9) (Ar 0)) (ze (zh (aS zq) (zd 9) (Ar 1)) zj)))) zj))))))))) (SK)
noncomputable def SM:Aj :=
  zA (zO 8 (jF zj)) (Ep)
noncomputable def SN:Aj :=
  zA (yX (yu "name_for" pf (zd 7) (ze (zG (ze (zh (aS zq) (zh (aS zq) (zd 1) (Ar 0)) (Ar 0)) (ze (zh (aS zq) (zh (aS zq) (zd 1) (Ar 0)) (Ar 1)) (ze (zd 2) zj)))) zj))) (SM)
noncomputable def SQ:Aj :=
  zA (zO 7 (zt (bJ "KeyRing" pd) (ze (zd 3) zj))) (SN)
noncomputable def SR:Aj :=
  zA (zO 6 (zt qX (ze (zd 1) zj))) (SQ)
noncomputable def SS:Aj :=
  zA (zO 5 (zt mS (ze (zd 0) zj))) (SR)
noncomputable def SU:Aj :=
  zA (zV (mB (zh wj (zd 4) (mC .non)))
  (jL "NotLetBy" "row" (zd 4))
  z0) (SS)
noncomputable def Es:Aj :=
  zA (zO 4 (zt qW (ze (zd 0) (ze (zd 1) zj)))) (SU)
noncomputable def eh:Al:=zJ 4 10 (Es)
def SV (T:Txt w K mg):a7 P w K mg base "make" 24 eh:=T.f_make.ok (k:=23) zaU λ_ _ _ _ _ _ _ hr=>by
 exact "z i4 gztz l H l R p czaU.nd z j DwX b4 cjE y qzst b4 U z i5 gzgn l H p czaU.nd z i6 gztD l R p czaU.nd z i7 xztI l 9 p czaU.nd z djG ozgx b7 l L l e m e m R r f r f l e m e m R r f r f l 6 p p z i8 dj1 p czaU.nd z 1 DwT v l b8 p v l tT.d_met b7 p z i9 e m tT.d_met b7 v l b8 p f czaU.nd y djG awg b8 gzww l b7 l b9 l e m b5 e m b9 r f f l e m b6 L l e m b9 r f l e m b9 r f p f p y E L l s l b8 p l s l tT.d_met b7 p p"
theorem SW:aa ["function", "held"] ["function", "held"] (zD zdf):=by exact "#"
noncomputable def SX:Aj :=
  (zH (zt vB (ze (y8 (yH (zh (aS zq) (zd 0) (Ar 1))) (zh (cu (yI false) false) (zG (ze (zh (aS zq) (zd 1) (Ar 0)) (ze (zd 0) zj))) (zd 2))) zj)))
noncomputable def Et:Al:=zJ 2 2 (SX)
theorem zwH (T:Txt w K mg):a7 P w K mg base "held_bits" 2 Et:=T.f_held_bits.ok (k:=1) SW λ_ _ _ _ _ _ _ hr=>by
 exact "y E gzjP l"
 refine kX (N:=["function", "held"]) rfl (by exact "$zdf") rfl (by decide +kernel) ?_ ?_
 exact "djg e m H r f A 7 L l e m R r f l H p 6 p"
theorem Eu:aa ["self", "program", "held", "function"] ["self", "program", "held"] (zD zf8):=by exact "#"
noncomputable def SY:Aj :=
  (jo (yH (zd 1)) (gN 3)
  (jU (zX (aM "bits_by_name" insOf excOf) (zd 0)) (zh zq (zd 3) (Ar 0)) (zt Et (ze (zd 3) (ze (zX (aM "pairs" insOf excOf) (zd 0)) zj)))))
noncomputable def S0:Aj :=
  zA (sFld "bits_by_name" insOf (zd 0) kW) (SY)
noncomputable def S4:Aj :=
  zA (sFld "pairs" insOf (zd 0) (zt iV (ze (zd 2) zj))) (S0)
noncomputable def Ew:Al:=zJ 3 4 (S4)
def zwL (T:Txt w K mg):gK P w K mg base "Holding" 3 Ew:=T.n_Holding.ok (k:=2) Eu λ_ _ _ _ _ _ _ hr=>by
 exact "z IT.d_pairs H gzbu l 6 p z IT.d_bits_by_name H czbj y u djg R"
 exact (wq 3 Eu.nd)
 exact "y Czaq N tT.d_bits_by_name H e h 9 r f gzwH l 9 l tT.d_pairs H p"
 rfl
theorem S5:aa ["self", "aim", "later"] ["self", "aim", "later"] (zD zf9):=by exact "#"
noncomputable def S6:Aj :=
  (zH (zh qJ (zt o_ (ze (zh zq (zd 1) (Ar 1)) (ze (zd 2) zj))) (zh zq (zX (aM "bits_by_name" insOf excOf) (zd 0)) (zh zq (zd 1) (Ar 0)))))
noncomputable def m_Holding_goal_of:Al:=zJ 3 3 (S6)
def S7 (T:Txt w K mg):bx P w K mg base "Holding" "goal_of" 3 m_Holding_goal_of:=T.m_Holding_goal_of.ok (k:=2) S5 λ_ _ _ _ _ _ _ hr=>by
 exact "y E kzeS gzdm l e h R r f l 6 p e h tT.d_bits_by_name H e h R r f f"
noncomputable def vP (c:Str):Option (Al):=if c = "Holding" then some m_Holding_goal_of else none
def zwP (T:Txt w K mg) {c:Str} {m:Al} (h:vP c=some m):bx P w K mg base c "goal_of" 3 m:=by
 unfold vP at h
 by_cases e0:c = "Holding"
 ·rw [zu e0] at h;cases h;rw [e0];exact (S7 T).mono (by decide)
 rw [zF e0] at h
 cases h
theorem S8:aa ["self", "name", "step", "later"] ["self", "name", "step", "later"] (zD zga):=by exact "#"
noncomputable def S9:Aj :=
  (zH (zh (cu (yI false) false) (zG (ze (zd 1) (ze (zh (aS zq) (zd 2) (Ar 1)) zj))) (zX (aM "pairs" insOf excOf) (zd 0))))
noncomputable def S_:Aj :=
  zA (zV (mx (mB (zh yq (zh (aS zq) (zd 2) (Ar 0)) (As "call"))) (mB (zh wC (zt o_ (ze (zt vD (ze (zd 2) zj)) (ze (zd 3) zj))) (Ar 0))))
  (zH (mC (.bl true)))
  z0) (S9)
noncomputable def m_Holding_makes_later:Al:=zJ 4 4 (S_)
def Ta (T:Txt w K mg):bx P w K mg base "Holding" "makes_later" 3 m_Holding_makes_later:=T.m_Holding_makes_later.ok (k:=2) S8 λ_ _ _ _ _ _ _ hr=>by
 exact "z j dza8 azen nyU e m 6 r f K dzil nzaJ gzdm l gzjR l 6 p l 9 p r y E czaF U y E 7 L l R l e m 6 r f p tT.d_pairs H"
noncomputable def vQ (c:Str):Option (Al):=if c = "Holding" then some m_Holding_makes_later else none
def zwU (T:Txt w K mg) {c:Str} {m:Al} (h:vQ c=some m):bx P w K mg base c "makes_later" 3 m:=by
 unfold vQ at h
 by_cases e0:c = "Holding"
 ·rw [zu e0] at h;cases h;rw [e0];exact (Ta T).mono (by decide)
 rw [zF e0] at h
 cases h
theorem zbw:aa ["self", "function", "bits", "later", "steps", "goals", "line", "aim"] ["self", "function", "bits"] (zD zgb):=by exact "#"
noncomputable def Tb:Aj :=
  (zH (zG (ze (zh zq (zd 1) (Ar 0)) (ze (zd 2) (ze (zt ja (ze (zd 4) zj)) (ze (zt ja (ze (zd 5) zj)) zj))))))
noncomputable def Tc:Aj :=
  zA (jo (yH (zt (lu 5) (ze (zh zq (zd 1) (Ar 2)) zj))) (gN 6)
  (zA (zO 7 (zt iX (ze (zd 6) zj)))
  (zA (zV (mB (zh wj (zd 7) (mC .non)))
  (yX (y4 jh (zd 5) (yu "goal_of" vP (zd 0) (ze (zd 7) (ze (zd 3) zj)))))
  z0)
  (zV (kP (mB (zt vC (ze (zd 6) zj))) (mB (yu "makes_later" vQ (zd 0) (ze (zh zq (zd 1) (Ar 0)) (ze (zd 6) (ze (zd 3) zj))))))
  (zA (yX (y4 jh (zd 4) (zh zq (zd 6) (Ar 1))))
  (jU (zd 3) (zh zq (zd 6) (Ar 1)) (mC (.bl true))))
  z0)))) (Tb)
noncomputable def Td:Aj :=
  zA (zO 5 (jF zj)) (Tc)
noncomputable def Te:Aj :=
  zA (zO 4 (jF zj)) (Td)
noncomputable def Tf:Aj :=
  zA (zO 3 (zt iV (ze (zt lq (ze (zd 1) (ze (zd 2) zj))) zj))) (Te)
noncomputable def m_Holding_best_form:Al:=zJ 3 8 (Tf)
def Th (T:Txt w K mg):bx P w K mg base "Holding" "best_form" 8 m_Holding_best_form:=T.m_Holding_best_form.ok (k:=7) zbw λ_ _ _ _ _ _ _ hr=>by
 exact "z i3 gzbu l gzdi l R l 6 p p czbw.nd z i4 dj1 p czbw.nd z i5 dj1 p czbw.nd z u djg V l e h R r f p"
 exact (wq 6 zbw.nd)
 exact "z i7 gzgt l b6 p czbw.nd z j DwX b7 cjE y djG awg b5 ozwP H l b7 l 9 p U y j dza8 azbN djx gzjQ l b6 p dzcI djx ozwU H l e h R r f l b6 l 9 p z djG awg b4 e h b6 r f y Czaq N 9 e h b6 r f czaF"
 rfl
 exact "U y E L l e h R r f l 6 l s l b4 p l s l b5 p p"
noncomputable def vR (c:Str):Option (Al):=if c = "Holding" then some m_Holding_best_form else none
def zw1 (T:Txt w K mg) {c:Str} {m:Al} (h:vR c=some m):bx P w K mg base c "best_form" 8 m:=by
 unfold vR at h
 by_cases e0:c = "Holding"
 ·rw [zu e0] at h;cases h;rw [e0];exact (Th T).mono (by decide)
 rw [zF e0] at h
 cases h
theorem Ti:aa ["function", "goals"] ["function", "goals"] (zD zdg):=by exact "#"
noncomputable def Tj:Aj :=
  (zH (C7 (mH (ze (zt pk (ze (zh zq (zd 0) (Ar 2)) zj)) (ze (zd 1) zj))) (zG (ze (zh zq (zd 0) (Ar 0)) (ze (zd 1) zj)))))
noncomputable def Ex:Al:=zJ 2 2 (Tj)
theorem zw4 (T:Txt w K mg):a7 P w K mg base "aimed_pairs" 9 Ex:=T.f_aimed_pairs.ok (k:=8) Ti λ_ _ _ _ _ _ _ hr=>by
 exact "y E"
 refine Nk (N:=["function", "goals"]) rfl (by exact "%zdg") rfl (by decide +kernel) ?_ ?_
 exact "8 l gzgN l e h H r f p l R p A L l e h H r f l R p"
theorem wM:aa ["program", "bits", "held", "functions", "holding", "met", "marks", "forms", "pair", "function", "form", "aimed"] ["program", "bits", "held"] (zD zgc):=by exact "#"
noncomputable def Tn:Aj :=
  (zH (zt ja (ze (zd 7) zj)))
noncomputable def To:Aj :=
  zA (qD (mB (zh j5 (zt yr (ze (zd 7) zj)) (zt yr (ze (zd 5) zj))))
  (zA (zO 8 (zh (aS zq) (zd 5) (zt yr (ze (zd 7) zj))))
  (zA (zO 9 (zh (aS zq) (zd 3) (zh (aS zq) (zd 8) (Ar 0))))
  (zA (zO 10 (yu "best_form" vR (zd 4) (ze (zd 9) (ze (zh (aS zq) (zd 8) (Ar 1)) zj))))
  (zA (yX (y4 jh (zd 7) (zd 10)))
  (jo (yH (zt Ex (ze (zd 9) (ze (zh (aS zq) (zd 10) (Ar 3)) zj)))) (gN 11)
  (zV (mB (zh (cu (yI true) true) (zd 11) (zd 6)))
  (zA (iU (zd 6) (zd 11) (mC (.bl true)))
  (yX (y4 jh (zd 5) (zd 11))))
  z0))))))) (Tn)
noncomputable def Tp:Aj :=
  zA (zO 7 (jF zj)) (To)
noncomputable def Tq:Aj :=
  zA (zO 6 (zt iV (ze (zd 5) zj))) (Tp)
noncomputable def Tr:Aj :=
  zA (zO 5 (jF (ze (zG (ze (zh (aS zq) (zh (aS zq) (zd 0) (Ar 0)) (Ar 0)) (ze (zd 1) zj))) zj))) (Tq)
noncomputable def Ts:Aj :=
  zA (zO 4 (zt (bJ "Holding" Ew) (ze (zd 0) (ze (zd 2) zj)))) (Tr)
noncomputable def Tt:Aj :=
  zA (zO 3 (zt mS (ze (zd 0) zj))) (Ts)
noncomputable def mU:Al:=zJ 3 12 (Tt)
def zxc (T:Txt w K mg):a7 P w K mg base "best" 10 mU:=T.f_best.ok (k:=9) wM λ_ _ _ _ _ _ _ hr=>by
 exact "z i3 gzgn l H p cwM.nd z i4 xzwL l H l 6 p cwM.nd z i5 dj1 l L l e m e m H r f r f l R p p cwM.nd z i6 gzbu l b5 p cwM.nd z i7 dj1 p cwM.nd z 1 DwT v l b7 p v l b5 p z i8 e m b5 v l b7 p f cwM.nd z i9 e m 9 e m b8 r f f cwM.nd z i10 ozw1 b4 l b9 l e m b8 r f p cwM.nd z djG awg b7 b10 y u djg gzw4 l b9 l e m b10 r f p"
 exact (wq 11 wM.nd)
 exact "y j W b11 b6 z Czc4 N b6 b11 czaF"
 rfl
 exact "y djG awg b5 b11 U y E s l b7 p"
theorem zdH:aa ["_law_many", "_law_last", "_law_made_here", "_law_k", "_law_step"] ["_law_many", "_law_last"] (zD zgd):=by exact "#"
noncomputable def Tu:Aj :=
  (zH (zt ja (ze (zd 2) zj)))
noncomputable def Tv:Aj :=
  zA (yX (y4 jh (zd 2) (zG (ze (zh yo (As "q") (zt wG (ze (zd 0) zj))) (ze (zG (ze (As "x") zj)) (ze (zG (ze (zG zj) (ze (zd 1) zj))) zj)))))) (Tu)
noncomputable def Tw:Aj :=
  zA (jo (dR (ze (zd 0) zj)) (gN 3)
  (zA (zO 4 (zG (ze (As "let") (ze (As "y") (ze (As "add") (ze (zG (ze (zG (ze (As "of") (ze (As "x") zj))) (ze (zG (ze (As "is") (ze (zh wc (zd 0) (zd 3)) zj))) zj))) zj))))))
  (yX (y4 jh (zd 2) (zG (ze (zh yo (As "q") (zt wG (ze (zd 3) zj))) (ze (zG (ze (As "x") zj)) (ze (zG (ze (zG (ze (zd 4) zj)) (ze (zG (ze (As "go") (ze (zh yo (As "q") (zt wG (ze (zh yo (zd 3) (Ar 1)) zj))) (ze (zG (ze (zG (ze (As "of") (ze (As "y") zj))) zj)) zj)))) zj))) zj)))))))) (Tv)
noncomputable def Tx:Aj :=
  zA (zO 2 (jF zj)) (Tw)
noncomputable def vS:Al:=zJ 2 5 (Tx)
def zxh (T:Txt w K mg):a7 P w K mg base "_law_made" 1 vS:=T.f__law_made.ok (k:=0) zdH λ_ _ _ _ _ _ _ hr=>by
 exact "z i2 dj1 p czdH.nd z u"
 refine BV T.b_range ?_
 exact "l H p"
 exact (wq 3 zdH.nd)
 exact "z i4 L l K l K l K l L l L l K l K p l L l K l kzbO H 9 p p p czdH.nd y djG awg 6 L l ! K X l 9 p l L l K p l L l L l b4 p l L l K l ! K X l ! 9 r p l L l L l K l K p p p p p z djG awg 6 L l ! K X l H p l L l K p l L l L p l R p p y E s l 6 p"
theorem jI:aa ["_law_script", "_law_many", "_law_row", "_law_way", "_law_last", "_law_limit", "_law_program_here", "_law_bits", "_law_found", "_law_refused", "e", "_law_keys"] ["_law_script"] (zD zbs):=by exact "#"
noncomputable def Tz:Aj :=
  (zH (my (zh yq (zh zq (zd 8) (Ar 0)) (zt vS (ze (zd 1) (ze (zd 4) zj)))) (zh yq (zh zq (zd 8) (Ar 1)) (zd 11))))
noncomputable def TC:Aj :=
  zA (zO 11 (zt ja (ze (y8 (dR (ze (zh yo (zd 1) (Ar 1)) zj)) (zG (ze (As "again") (ze (zd 8) (ze (zG (ze (zh wc (zd 2) (zd 0)) (ze (zd 3) zj))) zj))))) zj))) (Tz)
noncomputable def TF:Aj :=
  zA (zV (mx (mB (zh wj (zd 9) (mC .non))) (mx (iJ (mB (zt (wD isT) (ze (zd 8) (ze (mC (.ty "tuple")) zj))))) (mB (zh wC (zt yr (ze (zd 8) zj)) (Ar 2)))))
  (zH (mC (.bl false)))
  z0) (TC)
noncomputable def TH:Aj :=
  zA (zV (mB (zh iL (zh yo (zd 1) (Ar 1)) (zd 5)))
  (zH (my (zh wj (zd 9) (mC .non)) (zh yq (zX (aM "limit" insOf excOf) (zd 9)) (zd 5))))
  z0) (TF)
noncomputable def vT:Aj :=
  zA (wU 8 10 "TooMany" (gr eh (ze (zd 6) (ze (zt mU (ze (zd 6) (ze (zd 7) (ze (zG zj) zj)))) (ze (zG (ze (zd 1) (ze (zd 2) zj))) (ze (zd 5) zj)))))
  (zO 9 (zd 10))) (TH)
noncomputable def TJ:Aj :=
  zA (zO 9 (mC .non)) (vT)
noncomputable def TK:Aj :=
  zA (zO 8 (mC .non)) (TJ)
noncomputable def TL:Aj :=
  zA (zO 7 (zh zq (jF (ze (Ar 4) (ze (Ar 1) zj))) (zd 3))) (TK)
noncomputable def TM:Aj :=
  zA (zO 6 (zt vA (ze (zd 3) (ze (zd 4) zj)))) (TL)
noncomputable def TQ:Aj :=
  zA (zV (mB (zh iL (zh yS (zt yY (ze (zd 0) (ze (Ar 3) zj))) (Ar 3)) (Ar 0)))
  (zO 5 (zh yo (Ar 1) (zh yS (zh jK (zt yY (ze (zd 0) (ze (Ar 3) zj))) (Ar 3)) (Ar 200))))
  z0) (TM)
noncomputable def TU:Aj :=
  zA (zO 5 (Ar 200)) (TQ)
noncomputable def TV:Aj :=
  zA (zO 4 (zt vy (ze (zh jK (zt yY (ze (zd 0) (ze (Ar 2) zj))) (Ar 2)) zj))) (TU)
noncomputable def vU:Aj :=
  zA (zO 3 (zh yS (zt yY (ze (zd 0) (ze (Ar 2) zj))) (Ar 2))) (TV)
noncomputable def vV:Aj :=
  zA (zO 2 (zt ja (ze (y8 (yH (iO (zd 0) (c_ (Ar 4)) (c_ (zh yo (Ar 4) (zh yS (zt yY (ze (zd 0) (ze (Ar 1) zj))) (Ar 4)))))) (zh yS (zd 0) (zh wc (zh mz (Ar 10) (Ar 18)) (Ar 1)))) zj))) (vU)
noncomputable def TY:Aj :=
  zA (zV (mB (zh yq (zh yS (zh jK (zt yY (ze (zd 0) (ze (Ar 0) zj))) (Ar 31)) (Ar 12)) (Ar 3)))
  (zO 1 (zh yS (zh jK (zt yY (ze (zd 0) (ze (Ar 0) zj))) (Ar 372)) (zh mz (Ar 10) (Ar 18))))
  z0) (vV)
noncomputable def TZ:Aj :=
  zA (zV (mB (zh (yI false) (zh yS (zh jK (zt yY (ze (zd 0) (ze (Ar 0) zj))) (Ar 31)) (Ar 12)) (zG (ze (Ar 1) (ze (Ar 2) zj)))))
  (zO 1 (zh yS (zh jK (zt yY (ze (zd 0) (ze (Ar 0) zj))) (Ar 372)) (Ar 200)))
  z0) (TY)
noncomputable def vW:Aj :=
  zA (zO 1 (zh yS (zt yY (ze (zd 0) (ze (Ar 0) zj))) (Ar 31))) (TZ)
noncomputable def Ey:Al:=zJ 1 12 (vW)
theorem zxv (T:Txt w K mg) {f:Addr} {fd:FuncData} (F:dJ K "law" "law" zbs f fd):bp P w K mg base (bT P w) 25 f fd ["_law_script"] (gp K mg Ey):=qF (k:=24) F jI λaX A outer s H E hr =>by
 exact "z i1 kwe gwL l H l r p r 0 z j nzbk kwe kzaI gwL l H l r p r r L l r l r p y i1 kwe kzaI gwL l H l r p r r 0 U z j nyU kwe kzaI gwL l H l r p r r r y i1 kwe kzaI gwL l H l r p r kzir r r 0 U z i2 s l w djg ZzcO H dzbP r dzbP ! r kwe gwL l H l r p r A kwe H kzbO kzir r r r p 0 z i3 kwe gwL l H l r p r 0 z i4 gzsC l kzaI gwL l H l r p r p 0 z i5 r 0 z j Dzes kwe gwL l H l r p r r y i5 ! r kwe kzaI gwL l H l r p r r 0 U z i6 gzsK l 9 l b4 p 0 z i7 e h dj1 l r l r p 9 f 0 z i8 cjE 0 z i9 cjE 0 z"
 refine B0 8 10 T.x_TooMany.tr ?_ ?_ jI.nd
 refine BW (SV T) (hr.mono (by decide)) ?_
 exact "l b6 l Mzxc l b6 l b7 l L p p l L l R l 6 p l b5 p"
 intro _
 exact "y i9 b10 0 z j Dzes ! R r b5 y E azep"
 refine j2 wX ?_ ?_
 exact "b9 cjE dzeo GyU tT.d_limit b9 b5 U z j dza8 azen DwX b9 cjE azen dzcJ djx F l b8 l 4 p dzil nzaJ v l b8 p r y E czaF U z i11 s l w"
 refine BV T.b_range ?_
 exact "l ! R r p A L l K l b8 l L l kzbO 6 H l 9 p p p 0 y E azep GyU e h b8 r f gzxh l R l b4 p dzeo GyU e h b8 r f b11"
end
def Ez (i j:Int) (h:0<j):j3 i j=i%j:=by unfold j3;rw [zu h]
def Old (a b:ao):Prop:=∀(n:Nat) so,a[n]?=some so->b[n]?=some so
def Old.refl (a:ao):Old a a:=λ_ _ e=>e
def Old.trans {a b c:ao}(h:Old a b) (h':Old b c):Old a c:=λn so e=>h' n so (h n so e)
def T1 {a b:ao}(h:Pre a b):Old a b:=λn so e=>h.get e
def yb (a d:ao):Old a (a++d):=T1 (Pre.of a d)
theorem EA {g:PV->zc->Option zc}{body:Aj}(I:Nat->zc->ao->Prop) (n:Nat) (hb:∀i e st,i<n->I i e st->∃e1 e2 av,g (.int i) e=some e1/\body e1 st=.ok (.nx e2) av/\I (i+1) e2 av) :
  ∀(k i:Nat) (env:zc) (st:ao),i+k=n->I i env st->∃cx bC,forL g body ((List.range' i k).map λi:Nat=>PV.int i) env st=.ok (.nx cx) bC/\I n cx bC
 | 0,i,env,st,hk,h=>⟨env,st,by simp,by rw [<-hk];exact h⟩
 | k+1,i,env,st,hk,h=>by
  obtain ⟨e1,e2,av,q1,q2,q3⟩:=hb i env st (by omega) h
  obtain ⟨cx,bC,r1,r2⟩:=EA I n hb k (i+1) e2 av (by omega) q3
  refine ⟨cx,bC,?_,r2⟩
  rw [List.range'_succ,yQ]
  unfold forL
  rw [q1]
  simp only
  rw [q2]
  simp only [zL]
  exact r1
theorem T3 (m:Nat) (st:ao) (h:m<=1000):kT [.int (m:Int)] st=.ok (.im ((List.range' 0 m).map λi:Nat=>PV.int i)) st:=by
 have hr:cR (m:Int)=true:=by simp [cR];omega
 simp [hr,nums,List.range_eq_range']
theorem ro (i:Int) (j:Nat) (h:0<j):∃b:Nat,b<j/\j3 i j=b:=by
 have h1:=Int.emod_nonneg i (show (j:Int)≠0 by omega)
 have h2:=Int.emod_lt_of_pos i (show (0:Int)<j by omega)
 exact ⟨(i%j).toNat,by omega,by rw [Ez _ _ (by omega)];omega⟩
def yk {st:ao}{n:Nat}{so:SO}(h:st[n]?=some so):n<st.length:=(yt.mp h).1
theorem rq {fe:Ai}{env:zc}(xs:An) (I:Nat->List PV->ao->Prop) (step:∀i x ys st,xs[i]?=some x->I i ys st->∃y ae,fe (some x::env) st=.ok y ae/\I (i+1) (ys++[y]) ae) :
  ∀(k i:Nat) (ys:An) (st:ao),i+k=xs.length->I i ys st->∃fH bC,cF fe env (xs.drop i) ys st=.ok (.ref bC.length) (bC++[.lst fH])/\I xs.length fH bC
 | 0,i,ys,st,hk,h=>⟨ys,st,by rw [lX (by omega)];rfl,by rw [<-hk];exact h⟩
 | k+1,i,ys,st,hk,h=>by
  have hx:xs[i]?=some (xs[i]'(by omega)):=yB (by omega)
  obtain ⟨y,ae,e,h1⟩:=step i _ ys st hx h
  obtain ⟨fH,bC,r,h2⟩:=rq xs I step k (i+1) (ys++[y]) ae (by omega) h1
  refine ⟨fH,bC,?_,h2⟩
  rw [jP (by omega)]
  unfold cF
  rw [e]
  simp only [jM,zL]
  exact r
theorem EB {fe:Ai}{env:zc}{n:Nat}(xs:An) (I:Nat->List PV->ao->Prop) (at_:∀i ys st,I i ys st->st[n]?=some (.lst xs)) (step:∀i x ys st,xs[i]?=some x->I i ys st->∃y ae,fe (some x::env) st=.ok y ae/\I (i+1) (ys++[y]) ae) :
  ∀(k i m:Nat) (ys:An) (st:ao),i+k=xs.length->k<m->I i ys st->∃fH bC,de fe env n m i ys st=.ok (.ref bC.length) (bC++[.lst fH])/\I xs.length fH bC
 | 0,i,m,ys,st,hk,hm,h=>by
  obtain ⟨m,rfl⟩:∃j,m=j+1:=⟨m-1,by omega⟩
  refine ⟨ys,st,?_,by rw [<-hk];exact h⟩
  unfold de
  rw [yK (at_ _ _ _ h),sh (by omega)]
 | k+1,i,m,ys,st,hk,hm,h=>by
  obtain ⟨m,rfl⟩:∃j,m=j+1:=⟨m-1,by omega⟩
  have hx:xs[i]?=some (xs[i]'(by omega)):=yB (by omega)
  obtain ⟨y,ae,e,h1⟩:=step i _ ys st hx h
  obtain ⟨fH,bC,r,h2⟩:=EB xs I at_ step k (i+1) m (ys++[y]) ae (by omega) (by omega) h1
  refine ⟨fH,bC,?_,h2⟩
  unfold de
  rw [yK (at_ _ _ _ h),hx]
  simp only
  rw [e]
  simp only [jM,zL]
  exact r
noncomputable abbrev S (l:List Nat):Str:=⟨l.toArray⟩
def EC (z:Str):S z.cps.toList=z:=by cases z;simp [S]
def mV (l:List Nat):(S l).length=l.length:=by show l.toArray.size=_;simp
def pz (a b:List Nat):S a++S b=S (a++b):=by
 rw [<-EC (S a++S b),PySem.Str.cps_append]
 congr 1
 simp [S]
def ad (x y:Str) (h:x.length+y.length<=1000000) (st:ao):yo (.str x) (.str y) st=.ok (.str (x++y)) st:=by
 rw [LQ,zu h]
def rz {α:Type}{l:List α}{i:Nat}{x:α}(h:l[i]?=some x):l.take (i+1)=l.take i++[x]:=by
 obtain ⟨hi,e⟩:=yt.mp h
 rw [<-e,List.take_append_getElem]
def bH {α:Type}{l:List α}{k:Nat}{x:α}(h:l[k]?=some x):c7 l (k:Int)=some x:=by
 have:=(yt.mp h).1
 have e:=(yt.mp h).2
 simp [c7,kl,this,e]
def pA {i j:Int}(b:Bool) (h:decide (i<j)=b) (st:ao):j5 (.int i) (.int j) st=.ok (.bl b) st:=by rw [NB,h]
def lR {i j:Int}(b:Bool) (h:decide (i=j)=b) (st:ao):yq (.int i) (.int j) st=.ok (.bl b) st:=by rw [De,h]
def vX {i j:Int}(b:Bool) (h:decide (j<i)=b) (st:ao):iL (.int i) (.int j) st=.ok (.bl b) st:=by rw [NC,h]
def T4 {n i:Nat}{x:PV}(h:(nums 0 n)[i]?=some x):i<n/\x=.int (i:Int):=by
 unfold nums at h
 rw [jY] at h
 cases e:(List.range n)[i]? with
 | none=>rw [e] at h;cases h
 | some j =>
  rw [e] at h
  obtain ⟨h1,h2⟩:=yt.mp e
  rw [List.getElem_range] at h2
  rw [List.length_range] at h1
  cases h
  exact ⟨h1,by subst h2;simp⟩
def vY (n:Nat):(nums 0 n).length=n:=by simp [nums]
def T5 (m:Nat) (st:ao) (h:m<=1000):kT [.int (m:Int)] st=.ok (.im (nums 0 m)) st:=by
 have hr:cR (m:Int)=true:=by simp [cR];omega
 rw [Mw,zu hr];simp
theorem T7 {fe:Ai}{fs:Ah}{env:zc}{st s0:ao}(n:Nat) (hn:n<=1000) (hf:fs env st=.ok [.int (n:Int)] s0) (I:Nat->List PV->ao->Prop) (step:∀i ys st,i<n->I i ys st->∃y ae,fe (Au i::env) st=.ok y ae/\I (i+1) (ys++[y]) ae) (h0:I 0 [] s0) :
  ∃fH bC,(y8 (dR fs) fe) env st=.ok (.ref bC.length) (bC++[.lst fH])/\I n fH bC:=by
 obtain ⟨ys,s1,C,h⟩:=rq (fe:=fe) (env:=env) (nums 0 n) I (λi x ys st hx h=>by
  obtain ⟨hi,rfl⟩:=T4 hx
  exact step i ys st hi h) n 0 [] s0 (by rw [vY];omega) h0
 rw [vY] at h
 refine ⟨ys,s1,?_,h⟩
 rw [mL,CD,hf,zL,T5 n _ hn,zL,qM,zu (by rw [vY];simp [lim];omega)]
 exact C
theorem vZ {fo fi fv:Ai}{e:zc}{s s1:ao}{r:Nat}{z:Str}{x:PV}{ks:Ad}{xs:An}(hv:fv e s=.ok x s1) (ho:fo e s1=.ok (.ref r) s1) (hi:fi e s1=.ok (.str z) s1) (hr:s1[r]?=some (.dic ks xs)) (hl:ks.length<=1000) :
  jU fo fi fv e s=.ok (.nx e) (s1.set r (.dic (jH z x ks xs).1 (jH z x ks xs).2)):=by
 unfold jU
 rw [hv,zL,ho,zL,hi,zL]
 show (yW s1 r _).bind _=_
 rw [C8 hr,zu (by simp [lim];omega),zL]
def T_ {fs:Ah}{gt:PV->zc->Option zc}{body:Aj}{e:zc}{st s0:ao}(I:Nat->zc->ao->Prop) (n:Nat) (hn:n<=1000) (hf:fs e st=.ok [.int (n:Int)] s0) (step:∀i e st,i<n->I i e st->∃e1 e2 av,gt (.int (i:Int)) e=some e1/\body e1 st=.ok (.nx e2) av/\I (i+1) e2 av) (h0:I 0 e s0) :
  ∃e' s',jo (dR fs) gt body e st=.ok (.nx e') s'/\I n e' s':=by
 obtain ⟨e',s',F,h⟩:=EA (g:=gt) (body:=body) I n step n 0 e s0 (by omega) h0
 refine ⟨e',s',?_,h⟩
 rw [qH,CD,hf,zL,T3 n _ hn,zL,L3]
 exact F
def Ua {a c:List Nat}(h:S a=S c):a=c:=by have:=congrArg (λz:Str=>z.cps.toList) h;simpa [S] using this
def pB {st:ao}(a b:Nat):yo (.int (a:Int)) (.int (b:Int)) st=.ok (.int ((a+b:Nat):Int)) st:=by rw [vk];congr 2
def Ub {α:Type}{l:List α}(nd:l.Nodup) {i j:Nat}(hi:i<l.length) (hj:j<l.length) (h:l[i]=l[j]):i=j:=by
 have p:=List.pairwise_iff_getElem.mp nd
 rcases Nat.lt_trichotomy i j with q|q|q
 ·exact absurd h (p i j hi hj q)
 ·exact q
 ·exact absurd h.symm (p j i hj hi q)
def jW {f fa fb:Ai}{e:zc}{st s1 s2 s3:ao}{x y z:PV}(h:f e st=.ok x s1) (h':fa e s1=.ok y s2) (h2:fb e s2=.ok z s3):ze f (ze fa (ze fb zj)) e st=.ok [x,y,z] s3:=qR h (zY h' h2)
def pD {f fa fb fc:Ai}{e:zc}{st s1 s2 s3 s4:ao}{x y z w:PV}(h:f e st=.ok x s1) (h':fa e s1=.ok y s2) (h2:fb e s2=.ok z s3) (h3:fc e s3=.ok w s4):ze f (ze fa (ze fb (ze fc zj))) e st=.ok [x,y,z,w] s4:=qR h (jW h' h2 h3)
theorem lA {s:ao}{n:Nat}{xs:An}{y:PV}(h:s[n]?=some (.lst xs)) (hl:xs.length<=100000):jh (.ref n) y s=.ok .non (s.set n (.lst (xs++[y]))):=by rw [Mz,yK h,zu (by simp [lim];omega)]
def yL {x:PV}{r:An}{st:ao}:zq (.tup (x::r)) (.int 0) st=.ok x st:=by
 have e:=bH (l:=x::r) (k:=0) (x:=x) rfl
 exact (congrArg (λz=>bP z st) e).trans rfl
def yJ {x y:PV}{r:An}{st:ao}:zq (.tup (x::y::r)) (.int 1) st=.ok y st:=by
 have e:=bH (l:=x::y::r) (k:=1) (x:=y) rfl
 exact (congrArg (λz=>bP z st) e).trans rfl
def ww {x y z:PV}{r:An}{st:ao}:zq (.tup (x::y::z::r)) (.int 2) st=.ok z st:=by
 have e:=bH (l:=x::y::z::r) (k:=2) (x:=z) rfl
 exact (congrArg (λz=>bP z st) e).trans rfl
def rA {x y z w:PV}{r:An}{st:ao}:zq (.tup (x::y::z::w::r)) (.int 3) st=.ok w st:=by
 have e:=bH (l:=x::y::z::w::r) (k:=3) (x:=w) rfl
 exact (congrArg (λz=>bP z st) e).trans rfl
def rB {xs ys:An}{st:ao}(h:xs.length+ys.length<=1000000):yo (.tup xs) (.tup ys) st=.ok (.tup (xs++ys)) st:=by
 show (if xs.length+ys.length<=lim then _ else _)=_
 rw [zu (by simpa [lim] using h)]
def eqs (a b:Str) (c:Bool) (h:decide (a=b)=c) (st:ao):yq (.str a) (.str b) st=.ok (.bl c) st:=by rw [NF,h]
theorem n1:("let" : Str) ≠ "call" := by decide +kernel
theorem n2:("let" : Str) ≠ "go" := by decide +kernel
theorem n3:("give" : Str) ≠ "call" := by decide +kernel
theorem n4:("give" : Str) ≠ "go" := by decide +kernel
theorem n7:("go" : Str) ≠ "call" := by decide +kernel
theorem n9:("if" : Str) ≠ "go" := by decide +kernel
def fR {a b:Str}(h:a≠b) (st:ao):yq (.str a) (.str b) st=.ok (.bl false) st:=eqs a b false (by simpa using h) st
def mW {a:Str}(st:ao):yq (.str a) (.str a) st=.ok (.bl true) st:=eqs a a true (by simp) st
theorem ED {ft:Ak}{fe:Ai}{env:zc}{st:ao}{n:Nat}{p:PV->Bool}{f:PV->PV}(xs:An) (hn:st[n]?=some (.lst xs)) (h:∀x∈xs,ft (some x::env) st=.ok (p x) st) (h':∀x∈xs,p x=true->fe (some x::env) st=.ok (f x) st):∀(k i m:Nat) (ys:An),i+k=xs.length->k<m->dz ft fe env n m i ys st=.ok (.ref st.length) (st++[.lst (ys++(xs.drop i).flatMap λx=>if p x=true then [f x] else [])])
 | 0,i,m,ys,hk,hm=>by
  obtain ⟨m,rfl⟩:∃j,m=j+1:=⟨m-1,by omega⟩
  unfold dz
  rw [yK hn,sh (by omega),lX (by omega)]
  simp
 | k+1,i,m,ys,hk,hm=>by
  obtain ⟨m,rfl⟩:∃j,m=j+1:=⟨m-1,by omega⟩
  have hi:i<xs.length:=by omega
  have hx:xs[i]?=some (xs[i]'hi):=yB hi
  have mem:=List.getElem_mem hi
  have ih:=ED (ft:=ft) (fe:=fe) (env:=env) xs hn h h' k (i+1) m
  unfold dz
  rw [yK hn,hx]
  simp only
  rw [h _ mem]
  simp only [jM,zL]
  rw [jP hi,List.flatMap_cons]
  cases hp:p (xs[i]'hi) with
  | true =>
   simp only [wy]
   rw [h' _ mem hp]
   simp only [jM,zL]
   rw [ih _ (by omega) (by omega)]
   simp
  | false =>
   rw [zF (by simp),ih _ (by omega) (by omega)]
   simp
theorem f7 {g:PV->zc->Option zc}{body:Aj}(xs:An) (I:Nat->zc->ao->Prop) (step:∀i x e st,xs[i]?=some x->I i e st->∃e1 e2 av,g x e=some e1/\body e1 st=.ok (.nx e2) av/\I (i+1) e2 av) :
  ∀(k i:Nat) (env:zc) (st:ao),i+k=xs.length->I i env st->∃cx bC,forL g body (xs.drop i) env st=.ok (.nx cx) bC/\I xs.length cx bC
 | 0,i,env,st,hk,h=>⟨env,st,by rw [lX (by omega)];rfl,by rw [<-hk];exact h⟩
 | k+1,i,env,st,hk,h=>by
  have hx:xs[i]?=some (xs[i]'(by omega)):=yB (by omega)
  obtain ⟨e1,e2,av,q1,q2,q3⟩:=step i _ env st hx h
  obtain ⟨cx,bC,r,h2⟩:=f7 xs I step k (i+1) e2 av (by omega) q3
  refine ⟨cx,bC,?_,h2⟩
  rw [jP (by omega)]
  unfold forL
  rw [q1]
  simp only
  rw [q2]
  simp only [zL]
  exact r
def Uc {s:ao}{n k:Nat}{xs ys:An}(h:s[n]?=some (.lst xs)) (h':s[k]?=some (.lst ys)) (hl:xs.length+ys.length<=1000000):uI (.ref n) (.ref k) s=.ok .non (s.set n (.lst (xs++ys))):=by
 show yp s n _=_
 rw [yK h,yK h']
 exact zu (by simpa [lim] using hl)
noncomputable def fy {α:Type}:Res α->ao
 | .ok _ s=>s
 | _=>[]
noncomputable def cW:Bool->PV
 | true=>.tup [.str "fail", .str "enough"]
 | false=>.tup [.str "give", .tup [.str "of", .str "x"]]
noncomputable def bh (x:Str):PV:=.tup [.str "of", .str x]
noncomputable def turn {α:Type}:Bool->α->α->α->List α
 | false,a,b,c=>[a,b,c]
 | true,a,b,c=>[c,a,b]
noncomputable def fz:PV:=.tup [.str "let", .str "m", .str "down", .tup [bh "n"]]
noncomputable def d7:PV:=.tup [.str "let", .str "y", .str "add", .tup [bh "x", bh "n"]]
noncomputable def fS (w:Bool):PV:=.tup [.str "go", .str "again", .tup (turn w (bh "m") (bh "r") (bh "y"))]
noncomputable def fA (w l:Bool):PV:=.tup [.str "if", bh "n", .tup [.tup [fz,d7],fS w],.tup [.tup [],cW l]]
noncomputable def bZ (w l:Bool):PV:=.tup [.str "again", .tup (turn w (.str "n") (.str "r") (.str "x")),.tup [.tup [],fA w l]]
noncomputable def a9:Bool->Int
 | false=>4
 | true=>1
noncomputable def bB (w:Bool):PV:=.tup [.str "again", .int (a9 w),.tup [.str "y"],.tup [.int (a9 w)]]
noncomputable def pE (A B:An):ao:=[.lst A,.lst B,.lst [.int 4,.int 1]]
noncomputable def lS:Res PV->Nat
 | .ok (.ref n) _=>n
 | _=>0
noncomputable abbrev cB (w l:Bool):PV:=.tup [bZ w l]
noncomputable abbrev dF (w:Bool):PV:=.tup [bB w]
noncomputable abbrev v3 (w l:Bool) (A B:An):Res PV:=mU [cB w l,.int (a9 w),.tup []] (pE A B)
noncomputable abbrev v7 (w l:Bool) (A B:An):Res PV:=qW [cB w l,dF w] (fy (v3 w l A B))
noncomputable abbrev pF (w l:Bool) (A B:An):Res PV:=mS [cB w l] (fy (v7 w l A B))
noncomputable abbrev mX (w l:Bool) (A B:An):Res PV:=qX [dF w] (fy (pF w l A B))
def Ud (A B:An):∀w l,v3 w l A B=.ok (dF w) (fy (v3 w l A B))
 | false,false=>by kernel_rfl
 | false,true=>by kernel_rfl
 | true,false=>by kernel_rfl
 | true,true=>by kernel_rfl
def Ue (A B:An):∀w l,v7 w l A B=.ok .non (fy (v7 w l A B))
 | false,false=>by kernel_rfl
 | false,true=>by kernel_rfl
 | true,false=>by kernel_rfl
 | true,true=>by kernel_rfl
def Ug (A B:An):∀w l,pF w l A B=.ok (.ref (lS (pF w l A B))) (fy (pF w l A B))
 | false,false=>by kernel_rfl
 | false,true=>by kernel_rfl
 | true,false=>by kernel_rfl
 | true,true=>by kernel_rfl
def Uh (A B:An):∀w l,mX w l A B=.ok (.ref (lS (mX w l A B))) (fy (mX w l A B))
 | false,false=>by kernel_rfl
 | false,true=>by kernel_rfl
 | true,false=>by kernel_rfl
 | true,true=>by kernel_rfl
def Ui (A B:An):∀w l,(fy (mX w l A B))[lS (pF w l A B)]?=some (.dic ["again"] [bZ w l])
 | false,false=>by kernel_rfl
 | false,true=>by kernel_rfl
 | true,false=>by kernel_rfl
 | true,true=>by kernel_rfl
def Uj (A B:An):∀w l,(fy (mX w l A B))[lS (mX w l A B)]?=some (.dit [[.inr "again", .inl (a9 w)]] [bB w])
 | false,false=>by kernel_rfl
 | false,true=>by kernel_rfl
 | true,false=>by kernel_rfl
 | true,true=>by kernel_rfl
def Uk (w l:Bool) (A B:An):∃s1 s2 s3 s4 f g,mU [cB w l,.int (a9 w),.tup []] (pE A B)=.ok (dF w) s1/\qW [cB w l,dF w] s1=.ok .non s2/\mS [cB w l] s2=.ok (.ref f) s3/\qX [dF w] s3=.ok (.ref g) s4 /\
  s4[f]?=some (.dic ["again"] [bZ w l])/\s4[g]?=some (.dit [[.inr "again", .inl (a9 w)]] [bB w]) :=
 ⟨_,_,_,_,_,_,Ud A B w l,Ue A B w l,Ug A B w l,Uh A B w l,Ui A B w l,Uj A B w l⟩
noncomputable def jt:List (List Nat)->List Nat
 | []=>[]
 | x::xs=>44::(x++jt xs)
noncomputable def jn:List (List Nat)->List Nat
 | []=>[]
 | x::xs=>x++jt xs
theorem Ul (ls:List (List Nat)):PySem.Txt.join ("," : Str) (ls.map S)=S (jn ls):=by
 show PySem.Builtin.Str.glued ("," : Str) (ls.map S)=_
 rw [PySem.StrLaws.glued_eq_join]
 have e0:("," : Str)=S [44]:=by decide +kernel
 rw [e0]
 induction ls with
 | nil=>rfl
 | cons c r ih =>
  cases r with
  | nil=>show S c=_;simp [jn,jt]
  | cons d r' =>
   show S c++S [44]++Str.join (S [44]) ((d::r').map S)=_
   rw [ih,pz,pz]
   simp [jn,jt]
theorem EE:∀ls:List (List Nat),strsOf (ls.map λl=>PV.str (S l))=some (ls.map S)
 | []=>rfl
 | l::ls=>by simp [strsOf,EE ls]
theorem EF:∀ls:List (List Nat),((ls.map S).map (·.length)).sum+ls.length<=(jt ls).length
 | []=>by simp [jt]
 | l::ls=>by
  have:=EF ls
  have:=mV l
  simp only [yQ,List.sum_cons,wz,jt,ig];omega
def Um (ls:List (List Nat)):(jt ls).length<=(jn ls).length+1:=by cases ls<;>simp [jt,jn]
theorem glue {fa:Ai}{e:zc}{st s1:ao}{r:Nat}{ls:List (List Nat)}{a b:Str}{ca cb:Nat}(h:fa e st=.ok (.ref r) s1) (hr:s1[r]?=some (.lst (ls.map λl=>PV.str (S l)))) (hl:(jn ls).length<=5000) (ea:a=S [ca]) (eb:b=S [cb]) :
  (zh yo (zh yo (As a) (oZ (As ",") fa)) (As b)) e st=.ok (.str (S (ca::(jn ls++[cb])))) s1:=by
 have hs:=EF ls
 have hj:=Um ls
 have J:(oZ (As ",") fa) e st=.ok (.str (S (jn ls))) s1:=by
  show (fa e st).bind _=_
  rw [h,zL]
  show yp s1 r _=_
  rw [yK hr,EE]
  have l1:("," : Str).length=1:=by decide +kernel
  simp only [jZ,l1]
  rw [zu (by omega),Ul]
 subst ea eb
 have la:=mV [ca]
 have lb:=mV [cb]
 have lj:=mV (jn ls)
 refine zy (zy rfl J (ad _ _ (by rw [la,lj];simp;omega) _)) rfl ?_
 rw [ad _ _ (by rw [pz,mV,lb];simp;omega),pz,pz]
 simp
def v8 {n:Nat}(h:n<10 ^ 18):(n:Int).natAbs.log2<60:=by
 have h1:n<2 ^ 60:=Nat.lt_trans h (by decide)
 rw [Int.natAbs_natCast]
 by_cases hz:n=0
 ·rw [hz];decide
 ·exact (Nat.log2_lt hz).mpr h1
noncomputable def fM (n:Nat):Str:=Str.ofString (toString (n:Int))
def Uo {i j:Nat}(h:fM i=fM j):i=j:=by
 unfold fM at h
 have h:=(L7 _ _).mp h
 have h:Nat.repr i=Nat.repr j:=h
 exact Nat.repr_injective h
def v9 {n:Nat}(h:n<10 ^ 18):(fM n).length<=61:=by
 have e:=int_text_length_le (a:=(n:Int)) (k:=60) (by decide) (v8 h)
 unfold fM
 rw [ofString_length]
 omega
def rD {n:Nat}(h:n<10 ^ 18) (st:ao):wG [.int (n:Int)] st=.ok (.str (fM n)) st:=by
 rw [My,zu (Nat.lt_trans (v8 h) (by decide))];rfl
noncomputable def dc (n:Nat):List Nat:=(fM n).cps.toList
def rE (n:Nat):fM n=S (dc n):=(EC _).symm
def EG {n:Nat}(h:n<10 ^ 18):(dc n).length<=61:=by
 have:=v9 h
 rw [rE,mV] at this
 exact this
def Up {i j:Nat}(h:dc i=dc j):i=j:=Uo (by rw [rE,rE,h])
def Uq (i:Int) (st:ao):iY [.int i] st=.ok (.str "number") st:=by kernel_rfl
def Ur (xs:An) (st:ao):iY [.tup xs] st=.ok (.str "row") st:=by kernel_rfl
theorem Us:("row" : Str) ≠ "number" := by decide +kernel
theorem Ut:("row" : Str) ≠ "word" := by decide +kernel
def EH (mr:Al) {n:Nat}(h:n<10 ^ 18) (st:ao):qY mr [.int (n:Int)] st=.ok (.str (S (dc n))) st:=by
 rw [<-rE]
 exact yw rfl (zP (ym (zR (zU (zk rfl)) (Uq _ _))) (wH (ji (yj (zy (zk rfl) rfl (mW _))) (yv (zR (zU (zk rfl)) (rD h _))))))
noncomputable def brk (ls:List (List Nat)):List Nat:=91::(jn ls++[93])
def v_ {α:Type}{l:List α}{n:Nat}{x:α}(h:l[n]?=some x):n<l.length:=(yt.mp h).1
theorem EI {mr:Al}{xs:An}{ls:List (List Nat)}(hl:xs.length=ls.length) (h5:(jn ls).length<=5000) (h9:xs.length<=1000) (hm:∀(i:Nat) x l,xs[i]?=some x->ls[i]?=some l->∀s,∃s1,mr [x] s=.ok (.str (S l)) s1/\Old s s1) (st:ao) :
  ∃s1,qY mr [.tup xs] st=.ok (.str (S (brk ls))) s1/\Old st s1:=by
 obtain ⟨ys,s1,R,hy,o⟩:=rq (fe:=zt mr (ze (zd 0) zj)) (env:=[some (.tup xs),some (.str "row"),none]) xs (λi ys s=>ys=((ls.take i).map λl=>PV.str (S l))/\Old st s) (λi x ys s hx ⟨h1,h2⟩=>by
  have hi:=v_ hx
  have hy:ls[i]?=some (ls[i]'(by omega)):=yB _
  obtain ⟨s1,e1,o1⟩:=hm i x _ hx hy s
  refine ⟨_,s1,zR (zU (zk rfl)) e1,?_,h2.trans o1⟩
  rw [h1,rz hy,lW];rfl) xs.length 0 [] st (by omega) ⟨rfl,Old.refl _⟩
 have C:(y8 (yH (zd 0)) (zt mr (ze (zd 0) zj))) [some (.tup xs),some (.str "row"),none] st=.ok (.ref s1.length) (s1++[.lst ys]):=by
  rw [mL]
  show fJ _ _ (.im xs) st=_
  rw [qM,zu (by simp [lim];omega)]
  exact R
 have G:=glue (ls:=ls) (a := "[") (b := "]") (ca:=91) (cb:=93) C (by rw [yC,hy,hl,List.take_length]) h5 (by decide +kernel) (by decide +kernel)
 exact ⟨_,yw rfl (zP (ym (zR (zU (zk rfl)) (Ur _ _))) (zP (jj (yj (zy (zk rfl) rfl (fR Us _)))) (zP (jj (yj (zy (zk rfl) rfl (fR Ut _)))) (wH (ji (yj (zy (zk rfl) rfl (mW _))) (yv G)))))),o.trans (yb _ _)⟩
theorem EJ:∀{ls:List (List Nat)}{m:Nat},(∀l∈ls,l.length<=m)->(jt ls).length<=ls.length*(m+1)
 | [],_,_=>by simp [jt]
 | l::ls,m,h=>by
  have h1:=h l (jk ..)
  have h2:=EJ (ls:=ls) (m:=m) λz hz=>h z (jr _ hz)
  simp only [jt,wz,ig,Nat.add_mul];omega
def Uu:∀ls:List (List Nat),(jn ls).length<=(jt ls).length
 | []=>by simp [jn,jt]
 | l::ls=>by simp [jn,jt]
def Uv {ls:List (List Nat)}{m:Nat}(h:∀l∈ls,l.length<=m):(jn ls).length<=ls.length*(m+1):=y6 (Uu ls) (EJ h)
def Rw (R:List Nat):Prop:=R.length<=3/\∀n∈R,n<10 ^ 18
noncomputable abbrev nV (n:Nat):PV:=.int (n:Int)
noncomputable abbrev bF (R:List Nat):PV:=.tup (R.map nV)
noncomputable def lB (R:List Nat) (k:Nat):List Nat:=brk [dc k,brk (R.map dc)]
def Uw {R:List Nat}{i j:Nat}(h:lB R i=lB R j):i=j:=by
 simp only [lB,brk,jn,jt,List.cons.injEq,true_and] at h
 exact Up (List.append_cancel_right (List.append_cancel_right h))
theorem w_ {R:List Nat}(hR:Rw R) {k:Nat}(hk:k<10 ^ 18) (st:ao):∃s1,pe 4 [.tup [nV k,bF R]] st=.ok (.str (S (lB R k))) s1/\Old st s1:=by
 have h1:(jn (R.map dc)).length<=186:=by
  have q:=Uv (ls:=R.map dc) (m:=61) λl hl=>by
   obtain ⟨n,hn,rfl⟩:=wm.mp hl
   exact EG (hR.2 n hn)
  have:=hR.1
  rw [jZ] at q
  omega
 have h2:(brk (R.map dc)).length<=188:=by simp [brk];omega
 have h3:(jn [dc k,brk (R.map dc)]).length<=5000:=by
  have:=EG hk
  simp [jn,jt];omega
 refine EI (ls:=[dc k,brk (R.map dc)]) rfl h3 (by simp) (λi x l hx hl s=>?_) st
 match i with
 | 0 =>
  cases hx;cases hl
  exact ⟨s,EH _ hk s,Old.refl _⟩
 | 1 =>
  cases hx;cases hl
  refine EI (by simp) (by omega) (by simp;have:=hR.1;omega) (λi x l hx hl s=>?_) s
  rw [jY] at hx hl
  cases hn:R[i]? with
  | none=>rw [hn] at hx;cases hx
  | some n =>
   rw [hn] at hx hl
   cases hx;cases hl
   exact ⟨s,EH _ (hR.2 n (m7 hn)) s,Old.refl _⟩
 | i+2=>cases hx
section
variable {e e1:zc}{st s s1 s2:ao}{f fa fb fo fi fv:Ai}{fs:Ah}{g g':Aj}{x y v:PV}{xs ys:An}{c:Str}{ks:Ad}{zs:An}{o n:Nat}
def wN {m n:Nat}(hl:xs.length=m) (h:g (xs.map some++List.replicate (n-m) none) st=.err c ks zs s1):zJ m n g xs st=.err c ks zs s1:=by
 unfold zJ
 rw [zu hl,h]
 rfl
def lU {m n:Nat}(hl:xs.length=m) (h:g (xs.map some++List.replicate (n-m) none) st=.ok (.nx e) s1):zJ m n g xs st=.ok .non s1:=by
 unfold zJ
 rw [zu hl,h]
 rfl
def ia (h:g e st=.err c ks zs s1):zA g g' e st=.err c ks zs s1:=by rw [uO,h,wV]
def xb {i:Nat}(h:f e st=.err c ks zs s1):zO i f e st=.err c ks zs s1:=by rw [B9,h,wV]
def Ux (h:f e st=.err c ks zs s1):yX f e st=.err c ks zs s1:=by rw [B_,h,wV]
def pG (h:f e st=.err c ks zs s1):zH f e st=.err c ks zs s1:=by rw [Ca,h,wV]
def xf (h:fs e st=.err c ks zs s1):zG fs e st=.err c ks zs s1:=by rw [B8,h,wV]
def xg (h:f e st=.err c ks zs s1):ze f fs e st=.err c ks zs s1:=by rw [uN,h,wV]
def xh (h':f e st=.ok x s1) (h:fs e s1=.err c ks zs s2):ze f fs e st=.err c ks zs s2:=by rw [uN,h',zL,h,wV]
def Uy {fld:Str}(h:f e st=.ok x s1):jL c fld f e st=.err c [fld] [x] s1:=by rw [LX,h,zL]
def jq {fn:Str}(h:s[o]?=some (.ins c ks xs)) (hi:insOf c=true) (hl:(ks.zip xs).lookup fn=some x):aM fn insOf excOf (.ref o) s=.ok x s:=by
 rw [L4,uQ h,zu hi,hl]
 rfl
def ib {fn:Str}(hv:fv e s=.ok x s1) (ho:fo e s1=.ok (.ref o) s1) (h:s1[o]?=some (.ins c ks xs)) (hi:insOf c=true) (hl:ks.length<1000):sFld fn insOf fo fv e s=.ok (.nx e) (s1.set o (.ins c (Mi.putK fn x ks xs).1 (Mi.putK fn x ks xs).2)):=by
 rw [L6,hv,zL,ho,zL]
 show (jf s1 o _).bind _=_
 rw [uQ h,zu ⟨hi,hl⟩,zL]
def yO {name:Str}{tab:Str->Option (Al)}{m:Al}{X:Res PV}(ho:fo e s=.ok (.ref o) s1) (h:s1[o]?=some (.ins c ks xs)) (hn:name∉ks) (ht:tab c=some m) (hf:fs e s1=.ok ys s2) (hm:m (.ref o::ys) s2=X):yu name tab fo fs e s=X:=by
 unfold yu
 rw [ho,zL]
 show jf s1 o _=_
 unfold jf
 rw [h]
 simp only
 rw [zF hn,ht]
 simp only
 rw [hf,zL,hm]
def xi {old:Am}{neg:Bool}{k:List Key}{kk:Ag}(hz:cH zs=some k) (h:cg s[n]?=some (kk,xs)):cu old neg (.tup zs) (.ref n) s=.ok (.bl (neg.xor (dn k kk))) (s.set n (.dit kk xs)):=by
 unfold cu
 simp only [hz,h]
def xj {old:Am}{k:List Key}{kk:Ag}(hz:cH zs=some k) (h:cg s[n]?=some (kk,xs)) (hl:gy k kk xs=some x):aS old (.ref n) (.tup zs) s=.ok x (s.set n (.dit kk xs)):=by
 unfold aS
 simp only [hz,h,hl]
 rfl
def Uz {k:List Key}{kk:Ag}(hv:fv e s=.ok x s1) (ho:fo e s1=.ok (.ref n) s1) (hi:fi e s1=.ok (.tup zs) s1) (hz:cH zs=some k) (h:cg s1[n]?=some (kk,xs)) (hn:dn k kk=false) (hl:kk.length<1000000) :
  iU fo fi fv e s=.ok (.nx e) (s1.set n (.dit (kk++[k]) (xs++[x]))):=by
 unfold iU
 rw [hv,zL,ho,zL,hi,zL]
 have P:ll (.tup zs) x (.ref n) s1=.ok () (s1.set n (.dit (kk++[k]) (xs++[x]))):=by
  unfold ll
  simp only [hz,h]
  rw [zu (by simpa [lim] using hl)]
  unfold wK
  rw [hn]
  rfl
 rw [P,zL]
def gO {i:Int}:aS zq (.tup xs) (.int i) s=zq (.tup xs) (.int i) s:=(rfl)
theorem EK {α:Type}{fk:α->List Key}{fx:α->PV}{j:α}:∀{l:List α},(∀a∈l,fk a=fk j->a=j)->j∈l->gy (fk j) (l.map fk) (l.map fx)=some (fx j)
 | [],_,h=>nomatch h
 | a::l,h,hj=>by
  rw [yQ,yQ]
  unfold gy
  by_cases q:fk a=fk j
  ·rw [zu q,h a (jk ..) q]
  ·rw [zF q]
   refine EK (λb hb=>h b (jr _ hb)) ?_
   rcases yE.mp hj with r|r
   ·exact absurd (by rw [r]) q
   ·exact r
def cA (h:s[n]?=some (.lst xs)):yr [.ref n] s=.ok (.int xs.length) s:=by
 unfold yr
 simp only [h]
 rw [LS,yK h]
def sg (i j:Int) (b:Bool) (h:(i==j)=b) (st:ao):oK (.int i) (.int j) st=.ok (.bl b) st:=by subst h;rfl
def rF {so:SO}(h:s[n]?=some so):s.set n so=s:=by
 obtain ⟨hn,rfl⟩:=yt.mp h
 exact List.set_getElem_self hn
end
noncomputable abbrev ic (L M N:Nat):SO:=.ins "KeyRing" ["limit", "met", "names"] [nV L,.ref M,.ref N]
noncomputable abbrev a8 (w:Bool) (R:List Nat) (k:Nat):PV:=.tup [.str "again", .int (a9 w),.tup [nV k,bF R]]
noncomputable abbrev xk (w:Bool) (R:List Nat) (k:Nat):An:=[.str "again", .int (a9 w),.str (S (lB R k))]
noncomputable def gP (w:Bool) (R:List Nat) (k:Nat):List Key:=[.inr "again", .inl (a9 w),.inr (S (lB R k))]
def mY (w:Bool) (R:List Nat) (k:Nat):cH (xk w R k)=some (gP w R k):=(rfl)
def EM {w:Bool}{R:List Nat}{i j:Nat}(h:gP w R i=gP w R j):i=j:=by
 unfold gP at h
 simp only [List.cons.injEq,Sum.inr.injEq,and_true,true_and] at h
 exact Uw (Ua h)
noncomputable def qN (j:Nat):Str := "q" ++ fM j
noncomputable abbrev cX (w:Bool) (R:List Nat) (m c:Nat):Ag:=(List.range c).map λj=>gP w R (m-j)
noncomputable abbrev cL (c:Nat):An:=(List.range c).map λj=>PV.str (qN j)
structure cM (w:Bool) (R:List Nat) (m L c r M N:Nat) (s:ao):Prop where
 at_:s[r]?=some (ic L M N)
 met:s[M]?=some (.lst ((List.range c).map λj=>a8 w R (m-j)))
 nms:cg s[N]?=some (cX w R m c,cL c)
 rM:r≠M
 rN:r≠N
 MN:M≠N
def cM.old {w:Bool}{R:List Nat}{m L c r M N:Nat}{s s':ao}(h:cM w R m L c r M N s) (o:Old s s'):cM w R m L c r M N s':=⟨o _ _ h.at_,o _ _ h.met,by
 have:=h.nms
 cases e:s[N]? with
 | none=>rw [e] at this;cases this
 | some so=>rw [o _ _ e];rw [e] at this;exact this,h.rM,h.rN,h.MN⟩
def Kp (M N:Nat) (s s':ao):Prop:=∀(m:Nat) so,m≠M->m≠N->s[m]?=some so->s'[m]?=some so
def Old.kp {M N:Nat}{s s':ao}(h:Old s s'):Kp M N s s':=λm so _ _ e=>h m so e
def Kp.trans {M N:Nat}{a b c:ao}(h:Kp M N a b) (h':Kp M N b c):Kp M N a c:=λm so p q e=>h' m so p q (h m so p q e)
theorem xm {w:Bool}{R:List Nat}{m c:Nat}(h:c<=m):dn (gP w R (m-c)) (cX w R m c)=false:=by
 rw [Bool.eq_false_iff]
 intro q
 obtain ⟨j,hj,e⟩:=wm.mp (Dm.mp q)
 have:=m9.mp hj
 have:=EM e
 omega
theorem EN {w:Bool}{R:List Nat}{m c j:Nat}(h:c<=m+1) (hj:j<c):gy (gP w R (m-j)) (cX w R m c) (cL c)=some (.str (qN j)) :=
 EK (fk:=λj=>gP w R (m-j)) (fx:=λj=>PV.str (qN j)) (λa ha q=>by
  have:=m9.mp ha
  have:=EM q
  omega) (m9.mpr hj)
def xo {w:Bool}{R:List Nat}{k r:Nat}{s s1:ao}{X:Res Fl}(E:pe 4 [.tup [nV k,bF R]] s=.ok (.str (S (lB R k))) s1) (h:DG [At r,some (a8 w R k),some (.tup (xk w R k)),none] s1=X) :
  DH [At r,some (a8 w R k),none,none] s=X :=
 zP (ym (yl (jW (zy (zk rfl) rfl (gO.trans yL)) (zy (zk rfl) rfl (gO.trans yJ)) (zR (zU (zy (zk rfl) rfl (gO.trans ww))) E)) (by simp))) h
theorem UA {w:Bool}{R:List Nat}{m L c r M N j:Nat}{s:ao}(hR:Rw R) (hm:m<10 ^ 18) (hc:c<=m+1) (hj:j<c) (G:cM w R m L c r M N s):∃s1,m_KeyRing_name_for [.ref r,a8 w R (m-j)] s=.ok (.str (qN j)) s1/\Old s s1:=by
 obtain ⟨s1,E,o⟩:=w_ hR (k:=m-j) (by omega) s
 have G1:=G.old o
 have hd:s1[N]?=some (.dit (cX w R m c) (cL c)):=by
  have:=G1.nms
  cases e:s1[N]? with
  | none=>rw [e] at this;cases this
  | some so =>
   rw [e] at this
   cases so with
   | dit ks xs=>cases this;rfl
   | dic ks xs =>
    exfalso
    cases ks with
    | cons=>cases this
    | nil=>cases xs with
     | cons=>cases this
     | nil =>
      have h0:(some (([]:Ag),([]:An)))=some (cX w R m c,cL c):=this
      injection h0 with h0
      injection h0 with h0 _
      have:=congrArg List.length h0
      simp at this
      omega
   | _=>cases this
 have ss:=rF hd
 have hh:dn (gP w R (m-j)) (cX w R m c)=true:=Dm.mpr (wm.mpr ⟨j,m9.mpr hj,rfl⟩)
 have I:=xi (old:=yI true) (neg:=true) (mY w R (m-j)) G1.nms
 rw [hh,ss] at I
 have J:=xj (old:=zq) (mY w R (m-j)) G1.nms (EN hc hj)
 rw [ss] at J
 have F:aM "names" insOf excOf (.ref r) s1=.ok (.ref N) s1:=jq G1.at_ (by decide +kernel) rfl
 exact ⟨s1,yw rfl (xo E (zP (jj (yj (zy (zk rfl) (yF (zk rfl) F) I))) (yv (zy (yF (zk rfl) F) (zk rfl) J)))),o⟩
theorem UB {c:Nat} (h:c<10 ^ 18) (st:ao):vx "q" (nV c) st=.ok (.str (qN c)) st:=by
 have l1:("q" : Str).length=1:=by decide +kernel
 have l2:=v9 h
 have l3:("q" ++ fM c:Str).length=("q" : Str).length+(fM c).length:=strLen_append _ _
 have l4:("q" ++ fM c:Str).length<=1000:=by omega
 show (if _ then _ else _)=_
 rw [zu ⟨Nat.lt_trans (v8 h) (by decide),l4⟩]
 rfl
section
variable {w:Bool}{R:List Nat}{m L c r M N:Nat}{s:ao}
def EO (G:cM w R m L c r M N s):yr [.ref M] (s.set N (.dit (cX w R m c) (cL c)))=.ok (nV c) (s.set N (.dit (cX w R m c) (cL c))):=by
 rw [cA (by rw [yR (yD G.MN)];exact G.met)]
 simp
def cM.dit (G:cM w R m L c r M N s):cM w R m L c r M N (s.set N (.dit (cX w R m c) (cL c))):=⟨by rw [yR (yD G.rN)];exact G.at_,by rw [yR (yD G.MN)];exact G.met,by
 have h:N<s.length:=by
  have:=G.nms
  cases e:s[N]? with
  | none=>rw [e] at this;cases this
  | some so=>exact yk e
 rw [yM h];rfl,G.rM,G.rN,G.MN⟩
def ER {so:SO}:Kp M N s (s.set N so):=λi x _ h e=>by rw [yR (yD h)];exact e
def UC {so:SO}:Kp M N s (s.set M so):=λi x h _ e=>by rw [yR (yD h)];exact e
theorem UD (hR:Rw R) (hm:m<10 ^ 18) (hc:c<=m) (hL:c=L) (G:cM w R m L c r M N s):∃s1,m_KeyRing_name_for [.ref r,a8 w R (m-c)] s=.err "TooMany" ["limit"] [nV L] s1:=by
 obtain ⟨s1,E,o⟩:=w_ hR (k:=m-c) (by omega) s
 have G1:=G.old o
 have I:=xi (old:=yI true) (neg:=true) (mY w R (m-c)) G1.nms
 rw [xm hc] at I
 have G2:=G1.dit
 have F:∀{f x},(((["limit", "met", "names"]:Ad).zip [nV L,.ref M,.ref N]).lookup f=some x)->aM f insOf excOf (.ref r) (s1.set N (.dit (cX w R m c) (cL c)))=.ok x (s1.set N (.dit (cX w R m c) (cL c))):=λh=>jq G2.at_ (by decide +kernel) h
 exact ⟨_,wN rfl (xo E (ia (ji (yj (zy (zk rfl) (yF (zk rfl) (jq G1.at_ (by decide +kernel) rfl)) I)) (zP (ym (zR (zU (yF (zk rfl) (F rfl))) (EO G1))) (ia (ji (yj (zy (zk rfl) (yF (zk rfl) (F rfl)) (sg _ _ true (by simp [hL]) _))) (Uy (yF (zk rfl) (F rfl)))))))))⟩
theorem ES (hR:Rw R) (hm:m<10 ^ 18) (hc:c<=m) (hL:c<L) (h9:L<=1000) (G:cM w R m L c r M N s):∃s1,m_KeyRing_name_for [.ref r,a8 w R (m-c)] s=.ok (.str (qN c)) s1/\cM w R m L (c+1) r M N s1/\Kp M N s s1:=by
 obtain ⟨s1,E,o⟩:=w_ hR (k:=m-c) (by omega) s
 have G1:=G.old o
 have I:=xi (old:=yI true) (neg:=true) (mY w R (m-c)) G1.nms
 rw [xm hc] at I
 have G2:=G1.dit
 generalize fC:s1.set N (.dit (cX w R m c) (cL c))=s2 at G2 I
 have nl:=EO G1
 rw [fC] at nl
 have K2:Kp M N s1 s2:=by rw [<-fC];exact ER
 have F:∀{f x},(((["limit", "met", "names"]:Ad).zip [nV L,.ref M,.ref N]).lookup f=some x)->aM f insOf excOf (.ref r) s2=.ok x s2:=λh=>jq G2.at_ (by decide +kernel) h
 have A:=lA (y:=a8 w R (m-c)) G2.met (by simp;omega)
 have K3:Kp M N s2 (s2.set M (.lst (((List.range c).map λj=>a8 w R (m-j))++[a8 w R (m-c)]))):=UC
 have M3:(s2.set M (.lst (((List.range c).map λj=>a8 w R (m-j))++[a8 w R (m-c)])))[M]?=some (.lst ((List.range (c+1)).map λj=>a8 w R (m-j))):=by
  rw [yM (yk G2.met),ke,lW];rfl
 generalize hs3:s2.set M (.lst (((List.range c).map λj=>a8 w R (m-j))++[a8 w R (m-c)]))=s3 at A K3 M3
 have a3:=K3 _ _ G2.rM G2.rN G2.at_
 have n3:cg s3[N]?=some (cX w R m c,cL c):=by rw [<-hs3,yR G2.MN];exact G2.nms
 have F3:aM "names" insOf excOf (.ref r) s3=.ok (.ref N) s3:=jq a3 (by decide +kernel) rfl
 have P:=Uz (e:=[At r,some (a8 w R (m-c)),some (.tup (xk w R (m-c))),some (nV c)]) (yF (fa:=zd 3) (zk rfl) (UB (c:=c) (by omega) s3)) (yF (fa:=zd 0) (zk rfl) F3) (fi:=zd 2) (zk rfl) (mY w R (m-c)) n3 (xm hc) (by simp;omega)
 have lN:N<s3.length:=by
  cases e:s3[N]? with
  | none=>rw [e] at n3;cases n3
  | some so=>exact yk e
 have ek:cX w R m c++[gP w R (m-c)]=cX w R m (c+1):=by simp [cX,ke]
 have ev:cL c++[PV.str (qN c)]=cL (c+1):=by simp [cL,ke]
 rw [ek,ev] at P
 have K4:Kp M N s3 (s3.set N (.dit (cX w R m (c+1)) (cL (c+1)))):=ER
 have d4:(s3.set N (.dit (cX w R m (c+1)) (cL (c+1))))[N]?=some (.dit (cX w R m (c+1)) (cL (c+1))):=yM lN
 have M4:(s3.set N (.dit (cX w R m (c+1)) (cL (c+1))))[M]?=some (.lst ((List.range (c+1)).map λj=>a8 w R (m-j))):=by rw [yR (yD G.MN)];exact M3
 generalize s3.set N (.dit (cX w R m (c+1)) (cL (c+1)))=s4 at P K4 d4 M4
 have n4:cg s4[N]?=some (cX w R m (c+1),cL (c+1)):=by rw [d4];rfl
 have G4:cM w R m L (c+1) r M N s4:=⟨K4 _ _ G.rM G.rN a3,M4,n4,G.rM,G.rN,G.MN⟩
 have J:=xj (old:=zq) (mY w R (m-c)) n4 (EN (by omega) (by omega))
 rw [rF d4] at J
 have F4:aM "names" insOf excOf (.ref r) s4=.ok (.ref N) s4:=jq G4.at_ (by decide +kernel) rfl
 exact ⟨s4,yw rfl (xo E (zP (ji (yj (zy (zk rfl) (yF (zk rfl) (jq G1.at_ (by decide +kernel) rfl)) I)) (zP (ym (zR (zU (yF (zk rfl) (F rfl))) nl)) (zP (jj (yj (zy (zk rfl) (yF (zk rfl) (F rfl)) (sg _ _ false (by simp;omega) _)))) (zP (wY (iT (yF (zk rfl) (F rfl)) G2.met (zk rfl) A)) P)))) (yv (zy (yF (zk rfl) F4) (zk rfl) J)))),G4,o.kp.trans (K2.trans (K3.trans K4))⟩
end
theorem UE (w:Bool) (R:List Nat) (m L:Nat) (st:ao):∃s1,bJ "KeyRing" pd [nV L] st=.ok (.ref st.length) s1/\cM w R m L 0 st.length (st.length+1) (st.length+2) s1/\Old st s1:=by
 let r:=st.length
 let t0:=st++[SO.ins "KeyRing" [] []]
 have h0:t0[r]?=some (.ins "KeyRing" [] []):=yC _ _
 let t1:=t0.set r (.ins "KeyRing" ["limit"] [nV L])
 have h1:t1[r]?=some (.ins "KeyRing" ["limit"] [nV L]):=yM (yk h0)
 have l1:t1.length=r+1:=by simp [t1,t0,r]
 let t2:=t1++[SO.lst []]
 have h2:t2[r]?=some (.ins "KeyRing" ["limit"] [nV L]):=yb _ _ _ _ h1
 let t3:=t2.set r (.ins "KeyRing" ["limit", "met"] [nV L,.ref t1.length])
 have h3:t3[r]?=some (.ins "KeyRing" ["limit", "met"] [nV L,.ref t1.length]):=yM (yk h2)
 have l3:t3.length=r+2:=by simp [t3,t2,l1]
 let t4:=t3++[SO.dic [] []]
 have h4:t4[r]?=some (.ins "KeyRing" ["limit", "met"] [nV L,.ref t1.length]):=yb _ _ _ _ h3
 let t5:=t4.set r (ic L t1.length t3.length)
 have E:pd [.ref r,nV L] t0=.ok .non t5:=lU rfl (zP (ib (zk rfl) (zk rfl) h0 (by decide +kernel) (by decide)) (zP (ib (wJ jp (by simp)) (zk rfl) h2 (by decide +kernel) (by decide)) (ib (x:=.ref t3.length) (s1:=t4) rfl (zk rfl) h4 (by decide +kernel) (by decide))))
 refine ⟨t5,?_,⟨?_,?_,?_,by omega,by omega,by omega⟩,λk so e=>?_⟩
 ·show (pd [.ref r,nV L] t0).bind _=_
  rw [E,zL]
  rfl
 ·show (t4.set r _)[r]?=_
  rw [yM (yk h4),l1,l3]
 ·show (t4.set r _)[r+1]?=_
  rw [yR (by omega)]
  refine yb _ _ _ _ ?_
  show (t2.set r _)[r+1]?=_
  rw [yR (by omega),<-l1]
  exact yC _ _
 ·show cg (t4.set r _)[r+2]?=_
  rw [yR (by omega),<-l3,show t4[t3.length]?=some (SO.dic [] []) from yC _ _]
  rfl
 ·have hk:=yk e
  have hr:r≠k:=by show st.length≠k;omega
  show (t4.set r _)[k]?=_
  rw [yR hr]
  refine yb _ _ _ _ ?_
  show (t2.set r _)[k]?=_
  rw [yR hr]
  refine yb _ _ _ _ ?_
  show (t0.set r _)[k]?=_
  rw [yR hr]
  exact yb _ _ _ _ e
noncomputable abbrev pH {α:Type}(ks:List α):An:=ks.map λ_=>.bl true
noncomputable abbrev bM:Aj:=(iU (zd 1) (zd 2) (mC (.bl true)))
def ie (n:Nat) (s s':ao):Prop:=∀(m:Nat) so,m≠n->s[m]?=some so->s'[m]?=some so
def ie.refl (n:Nat) (s:ao):ie n s s:=λ_ _ _ e=>e
def ie.trans {n:Nat}{a b c:ao}(h:ie n a b) (h':ie n b c):ie n a c:=λm so q e=>h' m so q (h m so q e)
def UG {n:Nat}{s:ao}{o:SO}:ie n s (s.set n o):=λm so q e=>by rw [yR (yD q)];exact e
theorem UH (ps:Ad) (nd:ps.Nodup) (hl:ps.length<=1000) (st:ao):∃s1,iV [.tup (ps.map PV.str)] st=.ok (.ref st.length) s1/\s1[st.length]?=some (.dic ps (pH ps))/\Old st s1:=by
 obtain ⟨e',s1,F,⟨z2,he⟩,hd,ob⟩:=f7 (g:=gN 2) (body:=bM) (ps.map PV.str) (λi e s=>(∃z2,e=[some (.tup (ps.map PV.str)),At st.length,z2])/\s[st.length]?=some (.dic (ps.take i) (pH (ps.take i)))/\ie st.length (st++[.dic [] []]) s) (λi x e s hx ⟨⟨z2,he⟩,hd,ob⟩=>by
  subst he
  rw [jY] at hx
  obtain ⟨z,hz,rfl⟩:=Option.map_eq_some_iff.mp hx
  have hi:i<ps.length:=(yt.mp hz).1
  have zn:z∉ps.take i:=λhm=>by
   obtain ⟨j,hj⟩:=List.getElem?_of_mem hm
   have jl:j<i:=by have:=(yt.mp hj).1;simp at this;omega
   rw [List.getElem?_take_of_lt jl] at hj
   obtain ⟨h1,h2⟩:=yt.mp hj
   obtain ⟨h3,h4⟩:=yt.mp hz
   have:=Ub nd h1 h3 (h2.trans h4.symm)
   omega
  have P:=vZ (fo:=zd 1) (fi:=zd 2) (fv:=mC (.bl true)) (e:=[some (.tup (ps.map PV.str)),At st.length,some (.str z)]) (s:=s) rfl (zk rfl) (zk rfl) hd (by simp;omega)
  have dp:jH z (.bl true) (ps.take i) (pH (ps.take i))=(ps.take (i+1),pH (ps.take (i+1))):=by
   unfold jH
   rw [zF (by simpa using zn),rz hz]
   simp [pH]
  rw [dp] at P
  have P':bM [some (.tup (ps.map PV.str)),At st.length,some (.str z)] s=_:=P
  exact ⟨_,_,_,rfl,P',⟨_,rfl⟩,yM (yk hd),ob.trans UG⟩) ps.length 0 [some (.tup (ps.map PV.str)),At st.length,none] (st++[.dic [] []]) (by simp) ⟨⟨none,rfl⟩,yC _ _,ie.refl _ _⟩
 subst he
 rw [jZ,List.take_length] at hd
 have FO:(jo (yH (zd 0)) (gN 2) bM) [some (.tup (ps.map PV.str)),At st.length,none] (st++[.dic [] []])=.ok (.nx [some (.tup (ps.map PV.str)),At st.length,z2]) s1:=by
  rw [qH,kU,zk rfl,zL]
  show (Res.ok (Sq.im (ps.map PV.str)) (st++[.dic [] []])).bind _=_
  rw [zL]
  exact F
 exact ⟨s1,yw rfl (zP (ym rfl) (zP FO (yv (zk rfl)))),hd,λm so e=>ob m so (by have:=yk e;omega) (yb _ _ _ _ e)⟩
noncomputable def bitAt (b:Int) (i:Nat):Bool:=decide (b/2 ^ i%2=1)
noncomputable def picks (p:Nat->Bool):Nat->List Str->Ad
 | _,[]=>[]
 | i,z::r=>if p i then z::picks p (i+1) r else picks p (i+1) r
theorem rG {ft:Ak}{fe:Ai}{env:zc}{st:ao}{p:Nat->Bool}:∀(zs:Ad) (i:Nat) (ys:An),(∀(j:Nat) z,i<=j->j<i+zs.length->ft (some (.int j)::some (.str z)::env) st=.ok (p j) st)->(∀(j:Nat) z,fe (some (.int j)::some (.str z)::env) st=.ok (.str z) st)->dA ft fe env i (zs.map PV.str) ys st=.ok (.ref st.length) (st++[.lst (ys++(picks p i zs).map PV.str)])
 | [],i,ys,_,_=>by simp [dA,picks]
 | z::r,i,ys,h,h'=>by
  rw [yQ]
  unfold dA
  rw [h i z (yd _) (by simp),jM,zL]
  unfold picks
  cases hp:p i with
  | true =>
   rw [zu rfl,zu rfl,h' i z,jM,zL,rG r (i+1) _ (λj z a b=>h j z (by omega) (by simp;omega)) h']
   simp
  | false =>
   rw [zF (by simp),zF (by simp),rG r (i+1) _ (λj z a b=>h j z (by omega) (by simp;omega)) h']
theorem UI (x:Int) (h:0<=x):Builtin.bitAnd x 1=x%2:=by
 unfold Builtin.bitAnd
 rw [il h]
 show ((x.toNat &&& 1:Nat):Int)=_
 rw [Nat.and_one_is_mod]
 omega
def rH (b:Int) (hb:0<=b) (j:Nat) (st:ao):iW [.int b,.int (j:Int)] st=.ok (.bl (bitAt b j)) st:=by
 have S:uW (.int b) (.int (j:Int)) st=.ok (.int (b/2 ^ j)) st:=by
  have hc:oF b (j:Int)=true:=by simp [oF]
  show (if oF b (j:Int)=true then Res.ok (PV.int (b/2 ^ (j:Int).toNat)) st else .stuck)=_
  rw [zu hc,Int.toNat_natCast]
 have nn:0<=b/2 ^ j:=Int.ediv_nonneg hb (Int.pow_nonneg (by decide))
 have A:uV (.int (b/2 ^ j)) (.int 1) st=.ok (.int (b/2 ^ j%2)) st:=by
  show (if c0 (b/2 ^ j) 1=true then Res.ok (PV.int (Builtin.bitAnd (b/2 ^ j) 1)) st else .stuck)=_
  rw [zu rfl,UI _ nn]
 exact yw rfl (yv (zy (zy (zy (zk rfl) (zk rfl) S) rfl A) rfl (De _ _)))
theorem ET {f:PV}{ps:Ad}{r:An}(b:Int) (hb:0<=b) (hl:ps.length<=1000) (st:ao):lq [.tup (f :: .tup (ps.map PV.str)::r),.int b] st=.ok (.tup ((picks (bitAt b) 0 ps).map PV.str)) (st++[.lst ((picks (bitAt b) 0 ps).map PV.str)]):=by
 have C:=rG (ft:=(mB (zt iW (ze (zd 3) (ze (zd 0) zj))))) (fe:=zd 1) (env:=[some (.tup (f :: .tup (ps.map PV.str)::r)),some (.int b)]) (st:=st) (p:=bitAt b) ps 0 [] (λj z _ _=>yj (zR (zY (zk rfl) (zk rfl)) (rH b hb j st))) (λj z=>zk rfl)
 rw [List.nil_append] at C
 refine yw rfl (yv (zR (zU ?_) (by rw [wt,yK (yC _ _)])))
 unfold o9
 rw [zU (zy (zk rfl) rfl yJ),zL]
 show (Res.bind (if _ then _ else _) _)=_
 rw [zu (by simp [lim];omega),zL]
 exact C
def pI {g:PV->zc->Option zc}{body:Aj}{x:PV}{r:An}{e e1 e2:zc}{s s1:ao}{X:Res Fl}(h:g x e=some e1) (hb:body e1 s=.ok (.nx e2) s1) (hr:forL g body r e2 s1=X):forL g body (x::r) e s=X:=by
 unfold forL
 rw [h]
 simp only
 rw [hb,zL]
 exact hr
def rJ {f:Ai}{gt:PV->zc->Option zc}{body:Aj}{e:zc}{s s1:ao}{xs:An}{X:Res Fl}(h:f e s=.ok (.tup xs) s1) (hX:forL gt body xs e s1=X):jo (yH f) gt body e s=X:=by
 rw [qH,kU,h,zL]
 show (Res.ok (Sq.im xs) s1).bind _=_
 rw [zL]
 exact hX
section
variable {f fl fu:Ai}{e:zc}{s:ao}{xs:An}{k:Nat}
variable {ms:List Fm}{k j:Nat}{m:Fm}{s:ao}
variable {g:PV->zc->Option zc}{body:Aj}{r i n:Nat}{xs:An}{x v:PV}{e e1 e2:zc}{s s1:ao}{X:Res Fl}
variable {hs:List (Str×Nat)}{x0 x1 x2 z5:Option PV}{m:Fm}{z:Str}{s:ao}
variable {Fs:List FD}{F:FD}{ms:List Fm}{k j:Nat}{m:Fm}
end
def EU {f:PV}{ps:Ad}{r:An}(b:Int) (hb:0<=b) (hl:ps.length<=1000) (st:ao):qZ [.tup (f :: .tup (ps.map PV.str)::r),.int b] st=.ok (.tup ((picks (λj=>!bitAt b j) 0 ps).map PV.str)) (st++[.lst ((picks (λj=>!bitAt b j) 0 ps).map PV.str)]):=by
 have C:=rG (ft:=(iJ (mB (zt iW (ze (zd 3) (ze (zd 0) zj)))))) (fe:=zd 1) (env:=[some (.tup (f :: .tup (ps.map PV.str)::r)),some (.int b)]) (st:=st) (p:=λj=>!bitAt b j) ps 0 [] (λj z _ _=>C_ (yj (zR (zY (zk rfl) (zk rfl)) (rH b hb j st)))) (λj z=>zk rfl)
 rw [List.nil_append] at C
 refine yw rfl (yv (zR (zU ?_) (by rw [wt,yK (yC _ _)])))
 unfold o9
 rw [zU (zy (zk rfl) rfl yJ),zL]
 show (Res.bind (if _ then _ else _) _)=_
 rw [zu (by simp [lim];omega),zL]
 exact C
def xq (w l:Bool) (st:ao):lq [bZ w l,.int (a9 w)] st=.ok (.tup [.str "x"]) (st++[.lst [.str "x"]]):=by
 cases w
 ·have e:picks (bitAt 4) 0 ["n", "r", "x"]=(["x"]:Ad):=by kernel_rfl
  have h:=ET (f:=.str "again") (ps:=["n", "r", "x"]) (r:=[.tup [.tup [],fA false l]]) 4 (by decide) (by decide) st
  rw [e] at h
  exact h
 ·have e:picks (bitAt 1) 0 ["x", "n", "r"]=(["x"]:Ad):=by kernel_rfl
  have h:=ET (f:=.str "again") (ps:=["x", "n", "r"]) (r:=[.tup [.tup [],fA true l]]) 1 (by decide) (by decide) st
  rw [e] at h
  exact h
def UJ (w l:Bool) (st:ao):qZ [bZ w l,.int (a9 w)] st=.ok (.tup [.str "n", .str "r"]) (st++[.lst [.str "n", .str "r"]]):=by
 cases w
 ·have e:picks (λj=>!bitAt 4 j) 0 ["n", "r", "x"]=(["n", "r"]:Ad):=by kernel_rfl
  have h:=EU (f:=.str "again") (ps:=["n", "r", "x"]) (r:=[.tup [.tup [],fA false l]]) 4 (by decide) (by decide) st
  rw [e] at h
  exact h
 ·have e:picks (λj=>!bitAt 1 j) 0 ["x", "n", "r"]=(["n", "r"]:Ad):=by kernel_rfl
  have h:=EU (f:=.str "again") (ps:=["x", "n", "r"]) (r:=[.tup [.tup [],fA true l]]) 1 (by decide) (by decide) st
  rw [e] at h
  exact h
def EV (st:ao) (a b:SO):(st++[a]).set st.length b=st++[b]:=by simp
noncomputable abbrev d8 (v:PV):SO:=.ins "Known" ["value"] [v]
noncomputable abbrev gQ (z:Str):SO:=.ins "Later" ["name"] [.str z]
theorem xt (v:PV) (st:ao):bJ "Known" w9 [v] st=.ok (.ref st.length) (st++[d8 v]):=by
 have E:w9 [.ref st.length,v] (st++[SO.ins "Known" [] []])=.ok .non ((st++[SO.ins "Known" [] []]).set st.length (d8 v)):=lU rfl (ib (zk rfl) (zk rfl) (yC _ _) (by decide +kernel) (by decide))
 show (w9 [.ref st.length,v] (st++[SO.ins "Known" [] []])).bind _=_
 rw [E,zL,EV]
 rfl
theorem EW (z:Str) (st:ao):bJ "Later" h_ [.str z] st=.ok (.ref st.length) (st++[gQ z]):=by
 have E:h_ [.ref st.length,.str z] (st++[SO.ins "Later" [] []])=.ok .non ((st++[SO.ins "Later" [] []]).set st.length (gQ z)):=lU rfl (ib (zk rfl) (zk rfl) (yC _ _) (by decide +kernel) (by decide))
 show (h_ [.ref st.length,.str z] (st++[SO.ins "Later" [] []])).bind _=_
 rw [E,zL,EV]
 rfl
def Kx (ms:List Nat) (s s':ao):Prop:=∀(m:Nat) so,m∉ms->s[m]?=some so->s'[m]?=some so
def Kx.refl (ms:List Nat) (s:ao):Kx ms s s:=λ_ _ _ e=>e
def Kx.trans {ms:List Nat}{a b c:ao}(h:Kx ms a b) (h':Kx ms b c):Kx ms a c:=λm so q e=>h' m so q (h m so q e)
def Old.kx {ms:List Nat}{s s':ao}(h:Old s s'):Kx ms s s':=λm so _ e=>h m so e
def jJ {ms:List Nat}{s:ao}{n:Nat}{so:SO}(h:n∈ms):Kx ms s (s.set n so):=λm x q e=>by
 have ne:n≠m:=λz=>q (z▸h)
 rw [yR ne];exact e
noncomputable abbrev fU (w:Bool) (r La T:Nat):SO:=.ins "Making" ["ring", "later", "goals", "things"] [.ref r,.ref La,.tup [.int (a9 w)],.ref T]
structure eI (w:Bool) (R:List Nat) (k r o La T an rn xn:Nat) (s:ao):Prop where
 ob:s[o]?=some (fU w r La T)
 la:s[La]?=some (.dic ["y"] [.bl true])
 th:s[T]?=some (.dic ["n", "r", "x"] [.ref an,.ref rn,.ref xn])
 kn:s[an]?=some (d8 (nV k))
 kr:s[rn]?=some (d8 (bF R))
 lx:s[xn]?=some (gQ "x")
def xv {fo fi fv:Ai}{e:zc}{s s1:ao}{r:Nat}{z:Str}{x:PV}{ks cz:Ad}{xs cU:An}(hd:jH z x ks xs=(cz,cU)) (hv:fv e s=.ok x s1) (ho:fo e s1=.ok (.ref r) s1) (hi:fi e s1=.ok (.str z) s1) (hr:s1[r]?=some (.dic ks xs)) (hl:ks.length<=1000) :
  jU fo fi fv e s=.ok (.nx e) (s1.set r (.dic cz cU)):=by
 have h:=vZ hv ho hi hr hl
 rw [hd] at h
 exact h
def UK (a b:PV):jH "r" b ["n"] [a]=((["n", "r"]:Ad),[a,b]):=by kernel_rfl
def UL (a b c:PV):jH "x" c ["n", "r"] [a,b]=((["n", "r", "x"]:Ad),[a,b,c]):=by kernel_rfl
def UM (a b c d:PV):jH "m" d ["n", "r", "x"] [a,b,c]=((["n", "r", "x", "m"]:Ad),[a,b,c,d]):=by kernel_rfl
def UN (a b c d y:PV):jH "y" y ["n", "r", "x", "m"] [a,b,c,d]=((["n", "r", "x", "m", "y"]:Ad),[a,b,c,d,y]):=by kernel_rfl
noncomputable abbrev bK:Aj:=(jU (zX (aM "things" insOf excOf) (zd 0)) (zd 5) (zt (bJ "Known" w9) (ze (zd 6) zj)))
noncomputable abbrev bL:Aj:=(jU (zX (aM "things" insOf excOf) (zd 0)) (zd 5) (zt (bJ "Later" h_) (ze (zd 5) zj)))
def UO {fs:Ah}{gt:PV->zc->Option zc}{body:Aj}{e:zc}{s s1:ao}{a b c d:PV}{X:Res Fl}(h:fs e s=.ok [.tup [a,b],.tup [c,d]] s1) (hX:forL gt body [.tup [a,c],.tup [b,d]] e s1=X):jo (mH fs) gt body e s=X:=by
 rw [qH,LZ,h,zL]
 exact hX
theorem UP (w l:Bool) (R:List Nat) (k r:Nat) (st:ao):∃La T an rn xn s1,bJ "Making" ph [.ref r,bZ w l,bB w,.tup [nV k,bF R]] st=.ok (.ref st.length) s1/\eI w R k r st.length La T an rn xn s1/\st.length<La/\La<T/\T<an/\an<rn/\rn<xn/\Old st s1:=by
 let o:=st.length
 let t0:=st++[SO.ins "Making" [] []]
 have h0:t0[o]?=some (.ins "Making" [] []):=yC _ _
 have l0:t0.length=o+1:=by simp [t0,o]
 let t1:=t0.set o (.ins "Making" ["ring"] [.ref r])
 have h1:t1[o]?=some (.ins "Making" ["ring"] [.ref r]):=yM (yk h0)
 have l1:t1.length=o+1:=by simp [t1,l0]
 have k1:Kx [o] t0 t1:=jJ (by simp)
 obtain ⟨t2,E2,d2,o2⟩:=UH ["y"] (by decide +kernel) (by decide) t1
 have h2:=o2 _ _ h1
 let t3:=t2.set o (.ins "Making" ["ring", "later"] [.ref r,.ref t1.length])
 have h3:t3[o]?=some (.ins "Making" ["ring", "later"] [.ref r,.ref t1.length]):=yM (yk h2)
 have k3:Kx [o] t2 t3:=jJ (by simp)
 let t4:=t3.set o (.ins "Making" ["ring", "later", "goals"] [.ref r,.ref t1.length,.tup [.int (a9 w)]])
 have h4:t4[o]?=some (.ins "Making" ["ring", "later", "goals"] [.ref r,.ref t1.length,.tup [.int (a9 w)]]):=yM (yk h3)
 have k4:Kx [o] t3 t4:=jJ (by simp)
 let t5:=t4++[SO.dic [] []]
 have h5:t5[o]?=some (.ins "Making" ["ring", "later", "goals"] [.ref r,.ref t1.length,.tup [.int (a9 w)]]):=yb _ _ _ _ h4
 let T:=t4.length
 have lT:o+1<T:=by
  have:=yk d2
  have e4:t4.length=t2.length:=by simp [t4,t3]
  show o+1<t4.length
  omega
 let t6:=t5.set o (fU w r t1.length T)
 have h6:t6[o]?=some (fU w r t1.length T):=yM (yk h5)
 have k6:Kx [o] t5 t6:=jJ (by simp)
 have d6:t6[t1.length]?=some (.dic ["y"] [.bl true]):=k6 _ _ (by simp;omega) (yb _ _ _ _ (k4 _ _ (by simp;omega) (k3 _ _ (by simp;omega) d2)))
 have T6:t6[T]?=some (.dic [] []):=k6 _ _ (by simp;omega) (yC _ _)
 have l6:t6.length=T+1:=by simp [t6,t5,T]
 let t7:=t6++[SO.lst [.str "n", .str "r"]]
 let t8:=t7++[d8 (nV k)]
 let t9:=t8.set T (.dic ["n"] [.ref t7.length])
 let u1:=t9++[d8 (bF R)]
 let u2:=u1.set T (.dic ["n", "r"] [.ref t7.length,.ref t9.length])
 let u3:=u2++[SO.lst [.str "x"]]
 let u4:=u3++[gQ "x"]
 let u5:=u4.set T (.dic ["n", "r", "x"] [.ref t7.length,.ref t9.length,.ref u3.length])
 have F:∀{s:ao},s[o]?=some (fU w r t1.length T)->aM "things" insOf excOf (.ref o) s=.ok (.ref T) s:=λh=>jq h (by decide +kernel) rfl
 have T8:t8[T]?=some (.dic [] []):=yb _ _ _ _ (yb _ _ _ _ T6)
 have h8:t8[o]?=some (fU w r t1.length T):=yb _ _ _ _ (yb _ _ _ _ h6)
 have k9:Kx [T] t8 t9:=jJ (by simp)
 have T9:t9[T]?=some (.dic ["n"] [.ref t7.length]):=yM (yk T8)
 have h9:=k9 _ _ (by simp;omega) h8
 have EX:u1[o]?=some (fU w r t1.length T):=yb _ _ _ _ h9
 have EY:u1[T]?=some (.dic ["n"] [.ref t7.length]):=yb _ _ _ _ T9
 have k2:Kx [T] u1 u2:=jJ (by simp)
 have UQ:u2[T]?=some (.dic ["n", "r"] [.ref t7.length,.ref t9.length]):=yM (yk EY)
 have UR:=k2 _ _ (by simp;omega) EX
 have EZ:u4[o]?=some (fU w r t1.length T):=yb _ _ _ _ (yb _ _ _ _ UR)
 have E7:u4[T]?=some (.dic ["n", "r"] [.ref t7.length,.ref t9.length]):=yb _ _ _ _ (yb _ _ _ _ UQ)
 have k5:Kx [T] u4 u5:=jJ (by simp)
 have B1:bK [At o,At r,some (bZ w l),some (bB w),some (.tup [nV k,bF R]),some (.str "n"),some (nV k)] t7=.ok (.nx [At o,At r,some (bZ w l),some (bB w),some (.tup [nV k,bF R]),some (.str "n"),some (nV k)]) t9:=vZ (s1:=t8) (zR (zU (zk rfl)) (xt _ _)) (yF (zk rfl) (F h8)) (zk rfl) T8 (by decide)
 have B2:bK [At o,At r,some (bZ w l),some (bB w),some (.tup [nV k,bF R]),some (.str "r"),some (bF R)] t9=.ok (.nx [At o,At r,some (bZ w l),some (bB w),some (.tup [nV k,bF R]),some (.str "r"),some (bF R)]) u2:=xv (UK _ _) (s1:=u1) (zR (zU (zk rfl)) (xt _ _)) (yF (zk rfl) (F EX)) (zk rfl) EY (by decide)
 have B3:bL [At o,At r,some (bZ w l),some (bB w),some (.tup [nV k,bF R]),some (.str "x"),some (bF R)] u3=.ok (.nx [At o,At r,some (bZ w l),some (bB w),some (.tup [nV k,bF R]),some (.str "x"),some (bF R)]) u5:=xv (UL _ _ _) (s1:=u4) (zR (zU (zk rfl)) (EW _ _)) (yF (zk rfl) (F EZ)) (zk rfl) E7 (by decide)
 have E:ph [.ref o,.ref r,bZ w l,bB w,.tup [nV k,bF R]] t0=.ok .non u5:=lU rfl (zP (ib (zk rfl) (zk rfl) h0 (by decide +kernel) (by decide)) (zP (ib (zR (zU (zy (zk rfl) rfl ww)) E2) (zk rfl) h2 (by decide +kernel) (by decide)) (zP (ib (zy (zk rfl) rfl rA) (zk rfl) h3 (by decide +kernel) (by decide)) (zP (ib (x:=.ref T) (s1:=t5) rfl (zk rfl) h5 (by decide +kernel) (by decide)) (zP (UO (zY (zR (zY (zk rfl) (zy (zk rfl) rfl yJ)) (UJ w l t6)) (zk rfl)) (pI rfl B1 (pI rfl B2 rfl))) (rJ (zR (zY (zk rfl) (zy (zk rfl) rfl yJ)) (xq w l u2)) (pI rfl B3 rfl)))))))
 have n7:t7.length=T+2:=by simp [t7,l6]
 have n9:t9.length=T+3:=by simp [t9,t8,n7]
 have n3:u3.length=T+5:=by simp [u3,u2,u1,n9]
 refine ⟨t1.length,T,t7.length,t9.length,u3.length,u5,?_,⟨?_,?_,?_,?_,?_,?_⟩,by omega,by omega,by omega,by omega,by omega,λm so e=>?_⟩
 ·show (ph [.ref o,.ref r,bZ w l,bB w,.tup [nV k,bF R]] t0).bind _=_
  rw [E,zL]
  rfl
 ·exact k5 _ _ (by simp;omega) EZ
 ·exact k5 _ _ (by simp;omega) (yb _ _ _ _ (yb _ _ _ _ (k2 _ _ (by simp;omega) (yb _ _ _ _ (k9 _ _ (by simp;omega) (yb _ _ _ _ (yb _ _ _ _ d6)))))))
 ·exact yM (yk E7)
 ·exact k5 _ _ (by simp;omega) (yb _ _ _ _ (yb _ _ _ _ (k2 _ _ (by simp;omega) (yb _ _ _ _ (k9 _ _ (by simp;omega) (yC _ _))))))
 ·exact k5 _ _ (by simp;omega) (yb _ _ _ _ (yb _ _ _ _ (k2 _ _ (by simp;omega) (yC _ _))))
 ·exact k5 _ _ (by simp;omega) (yC _ _)
 ·have hm:=yk e
  have a1:m≠o:=by show m≠st.length;omega
  have a2:m≠T:=by show m≠t4.length;omega
  exact k5 _ _ (by simpa using a2) (yb _ _ _ _ (yb _ _ _ _ (k2 _ _ (by simpa using a2) (yb _ _ _ _ (k9 _ _ (by simpa using a2) (yb _ _ _ _ (yb _ _ _ _ (k6 _ _ (by simpa using a1) (yb _ _ _ _ (k4 _ _ (by simpa using a1) (k3 _ _ (by simpa using a1) (o2 _ _ (k1 _ _ (by simpa using a1) (yb _ _ _ _ e))))))))))))))
section
variable {st:ao}{f b p:Nat}{B:PV}{ks:Ad}{xs:An}
def E9 {α:Type}(x:α) (r:List α):c7 (x::r) 0=some x:=bH (k:=0) rfl
def US {α:Type}(x y:α) (r:List α):c7 (x::y::r) 1=some y:=bH (k:=1) rfl
noncomputable abbrev rK (w:Str) (k:Int):SO:=.ins "Op" ["word", "many"] [.str w,.int k]
def i3:insOf "Op" = true:=by simp [insOf]
def UT (n:Int) (st:ao):iY [.int n] st=.ok (.str "number") st:=by
 have e:∀t,wD isT [.int n,.ty t] st=fh (gJ "int" t) st:=λ_=>rfl
 have t1:gJ "int" "str" = some false:=rfl
 have t2:gJ "int" "tuple" = some false:=rfl
 have t3:gJ "int" "dict" = some false:=rfl
 simp [iY,zJ,DE,DD,DC,DB,e,t1,t2,t3,fh]
def E_ (x:Int) (st:ao):pj [.tup [.str "number"],.tup [.int x]] st=.ok .non st:=by
 simp [pj,zJ,DL,iQ,forL,UT]
def Fb (x:Int) (st:ao):mT [.int x] st=.ok (.bl (decide (x≠0))) st:=by
 simp [mT,zJ,Eh,Eg,E_]
 by_cases h:x=0<;>simp [h]
def UU (n:Int) (st:ao):rj [.int n] st=.ok (.ref st.length) (st++[.lst []]):=by
 have e:∀t,wD isT [.int n,.ty t] st=fh (gJ "int" t) st:=λ_=>rfl
 have t2:gJ "int" "tuple" = some false:=rfl
 have t3:gJ "int" "dict" = some false:=rfl
 simp [rj,zJ,D7,D6,D5,e,t2,t3,fh]
def Fc {t:Ak}{b:Aj}{e:zc}{st s1:ao}(n:Nat) (h:t e st=.ok false s1):bO t b (n+1) e st=.ok (.nx e) s1:=by rw [uR,h,zL,zF (by simp)]
def rL {t:Ak}{b:Aj}{e e2:zc}{st s1 s2:ao}{n:Nat}{X:Res Fl}(h:t e st=.ok true s1) (hb:b e s1=.ok (.nx e2) s2) (hX:bO t b n e2 s2=X):bO t b (n+1) e st=X:=by
 rw [uR,h,zL,zu rfl,hb,zL];exact hX
def UW {t:Ak}{b:Aj}{e:zc}{st s1 s2:ao}{n:Nat}{c:Str}{ks:Ad}{zs:An}(h:t e st=.ok true s1) (hb:b e s1=.err c ks zs s2):bO t b (n+1) e st=.err c ks zs s2:=by
 rw [uR,h,zL,zu rfl,hb,wV]
def UX (n:Int) (st:ao):vI [.int n] st=.ok (.ref st.length) (st++[.lst [.int n],.lst []]):=by
 let t0:=st++[SO.lst [.int n]]
 have h0:t0[st.length]?=some (.lst [.int n]):=yC _ _
 let t1:=t0++[SO.lst []]
 have h1:t1[st.length]?=some (.lst [.int n]):=yb _ _ _ _ h0
 have X:=Uc h1 (show t1[t0.length]?=some (.lst []) from yC _ _) (by simp)
 rw [List.append_nil,rF h1] at X
 have I0:zq (.ref st.length) (.int 0) t0=.ok (.int n) t0:=by
  show yp t0 st.length _=_
  rw [yK h0]
  rfl
 have et:t1=st++[.lst [.int n],.lst []]:=by simp [t1,t0]
 have L0:yr [.ref st.length] t0=.ok (.int 1) t0:=cA h0
 have L1:yr [.ref st.length] t1=.ok (.int 1) t1:=cA h1
 rw [<-et]
 exact yw rfl (zP (ym (wJ (zU (zk rfl)) (by simp))) (zP (ym rfl) (zP (rL (n:=999999) (yj (zy (zk rfl) (zR (zU (zk rfl)) L0) (pA true (by decide) _))) (zP (wY (iT (zk rfl) h0 (zR (zU (zy (zk rfl) (zk rfl) I0)) (UU n t0)) X)) rfl) (Fc 999998 (yj (zy (zk rfl) (zR (zU (zk rfl)) L1) (pA false (by decide) _))))) (yv (zk rfl)))))
def UY (n:Int) (st:ao):vJ [.int n] st=.ok (.int 1) (st++[.lst [.int n],.lst []]):=by
 have L:yr [.ref st.length] (st++[.lst [.int n],.lst []])=.ok (.int 1) (st++[.lst [.int n],.lst []]):=cA (xs:=[.int n]) (by simp)
 exact yw rfl (yv (zR (zU (zR (zU (zk rfl)) (UX n st))) L))
def UZ (st:ao):rk [.str "down"] st=.ok (.ref st.length) (st++[rK "down" 1]):=by
 simp [rk,zJ,Ef,Ee,oA,w5,w6,bJ,vL,Ed,Ec,jf,insOf,Mi.putK,c7,kl,wa]
theorem U0 (n:Int) (h:1<=n) (st:ao):rh [.tup [.int n]] st=.ok (.int (n-1)) st:=by
 have:¬n<1:=by omega
 simp [rh,zJ,DV,DU,E9,this]
def U3 {st:ao} {o:Nat} (h:st[o]?=some (rK "down" 1)) (n:Int) (hn:1<=n):m_Op_answer [.ref o,.tup [.int n]] st=.ok (.int (n-1)) (st++[.lst [.int (n-1)],.lst []]):=by
 simp [m_Op_answer,zJ,Eb,Ea,D_,D9,D8,uQ h,i3,wa,w5,w6,E9,US,E_,ri,U0 n hn,UY]
end
def Fd {s:ao}{n:Nat}{ks:Ad}{xs:An}{z:Str}{x:PV}(h:s[n]?=some (.dic ks xs)) (hl:(ks.zip xs).lookup z=some x):zq (.ref n) (.str z) s=.ok x s:=by
 show yW s n _=_
 unfold yW
 rw [h]
 simp only
 rw [hl]
 rfl
theorem U4:("of" : Str) ≠ "is" := by decide +kernel
section
variable {s s1:ao}{o T La r n q:Nat}{w:Bool}{ks:Ad}{vs:An}{e:zc}
theorem U5 {fe src:Ai}{xs:An}{f:PV->PV}(hs:src e s=.ok (.tup xs) s1) (hl:xs.length<=1000) (h:∀x∈xs,fe (some x::e) s1=.ok (f x) s1):y8 (yH src) fe e s=.ok (.ref s1.length) (s1++[.lst (xs.map f)]):=by
 rw [mL,kU,hs,zL]
 show fJ _ _ (.im xs) s1=_
 rw [qM,zu (by simp [lim];omega)]
 have:=CF (f:=f) xs h []
 rw [List.nil_append] at this
 exact this
theorem U6 {fe src:Ai}{xs:An}{f:PV->PV}(hs:src e s=.ok (.ref n) s1) (hn:s1[n]?=some (.lst xs)) (hl:xs.length<=1000) (h:∀x∈xs,fe (some x::e) s1=.ok (f x) s1):y8 (yH src) fe e s=.ok (.ref s1.length) (s1++[.lst (xs.map f)]):=by
 rw [mL,kU,hs,zL,uP,yK hn,zL]
 have:=MC (f:=f) (env:=e) hn h xs.length 0 (lim+1) [] (by omega) (jc _) (by simp [lim];omega)
 rw [List.nil_append,List.drop_zero] at this
 exact this
def mZ {xs:An}:ja [.ref s.length] (s++[.lst xs])=.ok (.tup xs) (s++[.lst xs]):=by rw [wt,yK (yC _ _)]
def xw (h:s[T]?=some (.dic ks vs)) {z:Str}{v:PV}(hl:(ks.zip vs).lookup z=some v):q0 [bh z,.ref T] s=.ok v s :=
 yw rfl (zP (jj (yj (zy (zy (zk rfl) rfl yL) rfl (fR U4 _)))) (yv (zy (zk rfl) (zy (zk rfl) rfl yJ) (Fd h hl))))
noncomputable def m3 (ks:Ad) (vs:An):PV->PV
 | .tup [_,.str z]=>((ks.zip vs).lookup z).getD .non
 | _=>.non
def pJ (h:s[o]?=some (fU w r La T)):aM "things" insOf excOf (.ref o) s=.ok (.ref T) s:=jq h (by decide +kernel) rfl
def U7 {as:An}(ho:s[o]?=some (fU w r La T)) (h:s[T]?=some (.dic ks vs)) (hl:as.length<=1000) (ha:∀x∈as,∃z,x=bh z/\((ks.zip vs).lookup z).isSome=true):m_Making_things_at [.ref o,.tup as] s=.ok (.ref s.length) (s++[.lst (as.map (m3 ks vs))]) :=
 yw rfl (yv (U5 (zk rfl) hl λx hx=>by
  obtain ⟨z,rfl,hz⟩:=ha x hx
  obtain ⟨v,hv⟩:=Option.isSome_iff_exists.mp hz
  have e:m3 ks vs (bh z)=v:=by show ((ks.zip vs).lookup z).getD .non=v;rw [hv];rfl
  rw [e]
  exact zR (zY (zk rfl) (yF (zk rfl) (pJ ho))) (xw h hv)))
theorem xx {fo fa:Ai} {as:An} (h1:fo e s=.ok (.ref o) s) (h2:fa e s=.ok (.tup as) s) (ho:s[o]?=some (fU w r La T)) (h:s[T]?=some (.dic ks vs)) (hl:as.length<=1000) (ha:∀x∈as,∃z,x=bh z/\((ks.zip vs).lookup z).isSome=true):yu "things_at" lz fo (ze fa zj) e s=.ok (.ref s.length) (s++[.lst (as.map (m3 ks vs))]) :=
 yO h1 ho (by decide +kernel) (zu rfl) (zU h2) (U7 ho h hl ha)
def Tg (s:ao) (v a:PV):Prop:=∃q,v=.ref q/\((∃x,s[q]?=some (d8 x)/\a=.tup [.str "is", x])\/(∃z,s[q]?=some (gQ z)/\a=bh z))
def Tg.old {v a:PV}(h:Tg s v a) (ol:Old s s1):Tg s1 v a:=by
 obtain ⟨q,e,⟨x,h1,h2⟩|⟨z,h1,h2⟩⟩:=h
 ·exact ⟨q,e,.inl ⟨x,ol _ _ h1,h2⟩⟩
 ·exact ⟨q,e,.inr ⟨z,ol _ _ h1,h2⟩⟩
theorem rO {fo:Ai} {v a:PV} (h:Tg s v a) (ho:fo e s=.ok v s):yu "atom" wu fo zj e s=.ok a s:=by
 obtain ⟨q,rfl,⟨x,h1,rfl⟩|⟨z,h1,rfl⟩⟩:=h
 ·exact yO ho h1 (by decide +kernel) (zu rfl) jp (yw rfl (yv (yl (zY rfl (yF (zk rfl) (jq h1 (by decide +kernel) rfl))) (by simp))))
 ·have ht:wu "Later" = some m_Later_atom:=by unfold wu;rw [zF (by decide +kernel),zu rfl]
  exact yO ho h1 (by decide +kernel) ht jp (yw rfl (yv (yl (zY rfl (yF (zk rfl) (jq h1 (by decide +kernel) rfl))) (by simp))))
def rP {fo:Ai} {x:PV} (h:s[q]?=some (d8 x)) (ho:fo e s=.ok (.ref q) s):zX (aM "value" insOf excOf) fo e s=.ok x s:=yF ho (jq h (by decide +kernel) rfl)
end
theorem U8 {w:Bool}{R:List Nat}{k r o La T an rn xn:Nat}{s:ao}(G:eI w R k r o La T an rn xn s) (hk:1<=k):∃s1,m_Making_answer_ahead [.ref o,fz] s=.ok (nV (k-1)) s1/\Old s s1:=by
 let s1:=s++[rK "down" 1]
 have o1:Old s s1:=yb _ _
 let s2:=s1++[SO.lst [.ref an]]
 have o2:Old s1 s2:=yb _ _
 let s3:=s2++[SO.lst [nV k]]
 have o3:Old s2 s3:=yb _ _
 have hT:=xx (e:=[At o,some fz]) (fo:=zd 0) (fa:=zh zq (zd 1) (Ar 3)) (as:=[bh "n"]) (zk rfl) (zy (zk rfl) rfl rA) (o1 _ _ G.ob) (o1 _ _ G.th) (by decide) (λx hx=>⟨"n", by simpa using hx,rfl⟩)
 have e2:[bh "n"].map (m3 ["n", "r", "x"] [.ref an,.ref rn,.ref xn])=[PV.ref an]:=by kernel_rfl
 rw [e2] at hT
 have C:=U6 (e:=[At o,some fz]) (fe:=zX (aM "value" insOf excOf) (zd 0)) (f:=λ_=>nV k) (n:=s1.length) (s1:=s2) hT (yC _ _) (by simp) (λx hx=>by
  have e:x=.ref an:=by simpa using hx
  subst e
  exact rP (o2 _ _ (o1 _ _ G.kn)) (zk rfl))
 have hO:s3[s.length]?=some (rK "down" 1):=o3 _ _ (o2 _ _ (yC _ _))
 have A:=U3 hO (k:Int) (by omega)
 have ek:(k:Int)-1=((k-1:Nat):Int):=by omega
 rw [ek] at A
 refine ⟨_,yw rfl (yv (yO (zR (zU (zy (zk rfl) rfl ww)) (UZ s)) (yC _ _) (by decide +kernel) (zu rfl) (zU (zR (zU C) mZ)) A)),o1.trans (o2.trans (o3.trans (yb _ _)))⟩
noncomputable abbrev d9 (k:Nat):PV:=.tup [.str "let", .str "y", .str "add", .tup [bh "x", .tup [.str "is", nV k]]]
section
variable {g:PV->zc->Option zc}{body:Aj}{r i n:Nat}{xs:An}{x v:PV}{e e1 e2:zc}{s s1:ao}{X:Res Fl}
def U9 (h:s[r]?=some (.lst xs)) (hi:xs.length<=i):eL g body r (n+1) i e s=.ok (.nx e) s:=by
 unfold eL
 rw [yK h,sh hi]
def xy (h:s[r]?=some (.lst xs)) (hx:xs[i]?=some x) (hg:g (.tup [.int (i:Int),x]) e=some e1) (hb:body e1 s=.ok (.nx e2) s1) (hr:eL g body r n (i+1) e2 s1=X):eL g body r (n+1) i e s=X:=by
 unfold eL
 rw [yK h,hx]
 simp only
 rw [hg]
 simp only
 rw [hb,zL]
 exact hr
def Fe {fs:Ah}{a b c:PV}{e3 f1 f2 f3:zc}{s0 s2 s3:ao}(hf:fs e s0=.ok [.ref r] s) (h:s[r]?=some (.lst [a,b,c])) (h1:s1[r]?=some (.lst [a,b,c])) (h2:s2[r]?=some (.lst [a,b,c])) (h3:s3[r]?=some (.lst [a,b,c]))
  (g1:g (.tup [.int 0,a]) e=some f1) (b1:body f1 s=.ok (.nx e1) s1) (g2:g (.tup [.int 1,b]) e1=some f2) (b2:body f2 s1=.ok (.nx e2) s2) (g3:g (.tup [.int 2,c]) e2=some f3) (b3:body f3 s2=.ok (.nx e3) s3):mK fs g body e s0=.ok (.nx e3) s3:=by
 rw [Mx,hf,zL]
 show ((yp s r _).bind _)=_
 rw [yK h,zL]
 exact xy h rfl g1 b1 (xy h1 rfl g2 b2 (xy h2 rfl g3 b3 (U9 h3 (by simp))))
end
section
variable {s s1:ao}{n:Nat}{e:zc}
theorem Ff {fe src:Ai}{xs Y:An}(hs:src e s=.ok (.ref n) s1) (hn:s1[n]?=some (.lst xs)) (hl:xs.length<=1000) (hy:xs.length=Y.length) (h:∀(i:Nat) x y,xs[i]?=some x->Y[i]?=some y->fe (some x::e) s1=.ok y s1):y8 (yH src) fe e s=.ok (.ref s1.length) (s1++[.lst Y]):=by
 rw [mL,kU,hs,zL,uP,yK hn,zL]
 obtain ⟨ys,s2,C,h1,h2⟩:=EB (fe:=fe) (env:=e) (n:=n) xs (λi ys st=>ys=Y.take i/\st=s1) (λi ys st h=>by rw [h.2];exact hn) (λi x ys st hx ⟨h1,h2⟩=>by
  have hi:=v_ hx
  have hq:Y[i]?=some (Y[i]'(by omega)):=yB _
  subst h2
  exact ⟨_,_,h i x _ hx hq,by rw [h1,rz hq],rfl⟩) xs.length 0 (lim+1) [] s1 (by omega) (by simp [lim];omega) ⟨rfl,rfl⟩
 subst h2
 rw [hy,List.take_length] at h1
 subst h1
 exact C
end
structure Fg (w:Bool) (R:List Nat) (k r o La T an rn xn mn:Nat) (s:ao):Prop where
 ob:s[o]?=some (fU w r La T)
 la:s[La]?=some (.dic ["y"] [.bl true])
 th:s[T]?=some (.dic ["n", "r", "x", "m"] [.ref an,.ref rn,.ref xn,.ref mn])
 kn:s[an]?=some (d8 (nV k))
 kr:s[rn]?=some (d8 (bF R))
 lx:s[xn]?=some (gQ "x")
 km:s[mn]?=some (d8 (nV (k-1)))
structure iZ (w:Bool) (R:List Nat) (k r o T rn mn yn:Nat) (s:ao):Prop where
 ob:∃La,s[o]?=some (fU w r La T)
 th:∃an xn,s[T]?=some (.dic ["n", "r", "x", "m", "y"] [.ref an,.ref rn,.ref xn,.ref mn,.ref yn])
 kr:s[rn]?=some (d8 (bF R))
 km:s[mn]?=some (d8 (nV (k-1)))
 ly:s[yn]?=some (gQ "y")
theorem U_ {w:Bool}{R:List Nat}{k r o La T an rn xn mn:Nat}{s:ao}(G:Fg w R k r o La T an rn xn mn s) (no:o≠T) (nr:rn≠T) (nm:mn≠T):∃yn s1,m_Making_left_let [.ref o,d7] s=.ok (d9 k) s1/\iZ w R k r o T rn mn yn s1/\Kx [T] s s1:=by
 let s1:=s++[SO.lst [.ref xn,.ref an]]
 have o1:Old s s1:=yb _ _
 let s2:=s1++[SO.lst [bh "x", .tup [.str "is", nV k]]]
 have o2:Old s1 s2:=yb _ _
 let s3:=s2++[gQ "y"]
 have o3:Old s2 s3:=yb _ _
 have hT:=xx (e:=[At o,some d7,none]) (fo:=zd 0) (fa:=zh zq (zd 1) (Ar 3)) (as:=[bh "x", bh "n"]) (zk rfl) (zy (zk rfl) rfl rA) G.ob G.th (by decide) (λx hx=>by
  rcases yE.mp hx with q|q
  ·exact ⟨"x", q,by kernel_rfl⟩
  ·exact ⟨"n", by simpa using q,by kernel_rfl⟩)
 have e2:[bh "x", bh "n"].map (m3 ["n", "r", "x", "m"] [.ref an,.ref rn,.ref xn,.ref mn])=[PV.ref xn,.ref an]:=by kernel_rfl
 rw [e2] at hT
 have C:=Ff (e:=[At o,some d7,none]) (fe:=yu "atom" wu (zd 0) zj) (Y:=[bh "x", .tup [.str "is", nV k]]) (n:=s.length) (s1:=s1) hT (yC _ _) (by simp) (by simp) (λi x y hx hy=>by
  match i with
  | 0=>cases hx;cases hy;exact rO ⟨xn,rfl,.inr ⟨_,o1 _ _ G.lx,rfl⟩⟩ (zk rfl)
  | 1=>cases hx;cases hy;exact rO ⟨an,rfl,.inl ⟨_,o1 _ _ G.kn,rfl⟩⟩ (zk rfl)
  | i+2=>cases hx)
 have ol:=o1.trans (o2.trans o3)
 have P:=xv (UN _ _ _ _ (.ref s2.length)) (fo:=zX (aM "things" insOf excOf) (zd 0)) (fi:=zh zq (zd 1) (Ar 1)) (fv:=zt (bJ "Later" h_) (ze (zh zq (zd 1) (Ar 1)) zj)) (e:=[At o,some d7,some (.tup [bh "x", .tup [.str "is", nV k]])]) (s:=s2) (s1:=s3) (zR (zU (zy (zk rfl) rfl yJ)) (EW _ _)) (yF (zk rfl) (pJ (ol _ _ G.ob))) (zy (zk rfl) rfl yJ) (ol _ _ G.th) (by decide)
 have kx:Kx [T] s3 (s3.set T (.dic ["n", "r", "x", "m", "y"] [.ref an,.ref rn,.ref xn,.ref mn,.ref s2.length])):=jJ (by simp)
 have lT:=yk (ol _ _ G.th)
 have l2:=yk ((o1.trans o2) _ _ G.th)
 refine ⟨s2.length,_,yw rfl (zP (ym (zR (zU C) mZ)) (zP P (yv (yl (pD rfl (zy (zk rfl) rfl yJ) (zy (zk rfl) rfl ww) (zk rfl)) (by simp))))),⟨⟨La,kx _ _ (by simpa using no) (ol _ _ G.ob)⟩,⟨an,xn,yM lT⟩,kx _ _ (by simpa using nr) (ol _ _ G.kr),kx _ _ (by simpa using nm) (ol _ _ G.km),kx _ _ (by simp;omega) (yC _ _)⟩,ol.kx.trans kx⟩
noncomputable abbrev bA:Aj:=(zV (mB (zt iW (ze (zd 3) (ze (zd 6) zj))))
  (yX (y4 jh (zd 5) (yu "atom" wu (zd 7) zj)))
  (yX (y4 jh (zd 4) (zX (aM "value" insOf excOf) (zd 7)))))
noncomputable abbrev dG (w:Bool):PV:=.tup (turn w (bh "m") (bh "r") (bh "y"))
noncomputable abbrev eA (w:Bool) (o v4 v5:Nat) (z6 z7:Option PV):zc:=[At o,some (.str "again"),some (dG w),some (.int (a9 w)),At v4,At v5,z6,z7]
def Fh (w:Bool):0<=a9 w:=by cases w<;>decide
section
variable {w:Bool}{o v4 v5 q j:Nat}{s:ao}{xs:An}{v:PV}{z:Str}
theorem rQ (hb:bitAt (a9 w) j=false) (h4:s[v4]?=some (.lst xs)) (hl:xs.length<=1000) (hq:s[q]?=some (d8 v)):bA (eA w o v4 v5 (Au j) (At q)) s=.ok (.nx (eA w o v4 v5 (Au j) (At q))) (s.set v4 (.lst (xs++[v]))) :=
 oW (yj (zR (zY (zk rfl) (zk rfl)) ((rH _ (Fh w) j s).trans (by rw [hb])))) (wY (iT (zk rfl) h4 (rP hq (zk rfl)) (lA h4 (by omega))))
def Fi (hb:bitAt (a9 w) j=true) (h5:s[v5]?=some (.lst xs)) (hl:xs.length<=1000) (hq:s[q]?=some (gQ z)):bA (eA w o v4 v5 (Au j) (At q)) s=.ok (.nx (eA w o v4 v5 (Au j) (At q))) (s.set v5 (.lst (xs++[bh z]))) :=
 ji (yj (zR (zY (zk rfl) (zk rfl)) ((rH _ (Fh w) j s).trans (by rw [hb])))) (wY (iT (zk rfl) h5 (rO ⟨q,rfl,.inr ⟨z,hq,rfl⟩⟩ (zk rfl)) (lA h5 (by omega))))
end
def Va {fs:Ah}{w:Bool}{R:List Nat}{k o v4 v5 l rn mn yn:Nat}{s s3:ao}(hf:fs (eA w o v4 v5 none none) s=.ok [.ref l] s3) (hl:s3[l]?=some (.lst (turn w (.ref mn) (.ref rn) (.ref yn)))) (h4:s3[v4]?=some (.lst [])) (h5:s3[v5]?=some (.lst []))
  (kr:s3[rn]?=some (d8 (bF R))) (km:s3[mn]?=some (d8 (nV (k-1)))) (ly:s3[yn]?=some (gQ "y")) (m6:v4≠v5) (d:∀a∈[l,rn,mn,yn],a∉[v4,v5]) :
  ∃z6 z7 t,mK fs (g2 6 7) bA (eA w o v4 v5 none none) s=.ok (.nx (eA w o v4 v5 z6 z7)) t/\t[v4]?=some (.lst [nV (k-1),bF R])/\t[v5]?=some (.lst [bh "y"])/\Kx [v4,v5] s3 t:=by
 have dl:=d l (by simp)
 have dr:=d rn (by simp)
 have dm:=d mn (by simp)
 have dy:=d yn (by simp)
 have m4:v4∈[v4,v5]:=by simp
 have m5:v5∈[v4,v5]:=by simp
 cases w
 ·have K1:Kx [v4,v5] s3 (s3.set v4 (.lst ([]++[nV (k-1)]))):=jJ m4
  have a1:(s3.set v4 (.lst ([]++[nV (k-1)])))[v4]?=some (.lst [nV (k-1)]):=yM (yk h4)
  have c1:(s3.set v4 (.lst ([]++[nV (k-1)])))[v5]?=some (.lst []):=by rw [yR m6];exact h5
  have B1:=rQ (w:=false) (o:=o) (v5:=v5) (q:=mn) (j:=0) (by kernel_rfl) h4 (by simp) km
  generalize s3.set v4 (.lst ([]++[nV (k-1)]))=t1 at K1 a1 c1 B1
  have K2:Kx [v4,v5] t1 (t1.set v4 (.lst ([nV (k-1)]++[bF R]))):=jJ m4
  have a2:(t1.set v4 (.lst ([nV (k-1)]++[bF R])))[v4]?=some (.lst [nV (k-1),bF R]):=yM (yk a1)
  have c2:(t1.set v4 (.lst ([nV (k-1)]++[bF R])))[v5]?=some (.lst []):=by rw [yR m6];exact c1
  have B2:=rQ (w:=false) (o:=o) (v5:=v5) (q:=rn) (j:=1) (by kernel_rfl) a1 (by simp) (K1 _ _ dr kr)
  generalize t1.set v4 (.lst ([nV (k-1)]++[bF R]))=t2 at K2 a2 c2 B2
  have K3:Kx [v4,v5] t2 (t2.set v5 (.lst ([]++[bh "y"]))):=jJ m5
  have a3:(t2.set v5 (.lst ([]++[bh "y"])))[v5]?=some (.lst [bh "y"]):=yM (yk c2)
  have c3:(t2.set v5 (.lst ([]++[bh "y"])))[v4]?=some (.lst [nV (k-1),bF R]):=by rw [yR (yD m6)];exact a2
  have lC:=K1.trans K2
  have B3:=Fi (w:=false) (o:=o) (v4:=v4) (q:=yn) (j:=2) (by kernel_rfl) c2 (by simp) (lC _ _ dy ly)
  have i0:=lC.trans K3
  exact ⟨_,_,_,Fe hf hl (K1 _ _ dl hl) (lC _ _ dl hl) (i0 _ _ dl hl) rfl B1 rfl B2 rfl B3,c3,a3,i0⟩
 ·have K1:Kx [v4,v5] s3 (s3.set v5 (.lst ([]++[bh "y"]))):=jJ m5
  have a1:(s3.set v5 (.lst ([]++[bh "y"])))[v5]?=some (.lst [bh "y"]):=yM (yk h5)
  have c1:(s3.set v5 (.lst ([]++[bh "y"])))[v4]?=some (.lst []):=by rw [yR (yD m6)];exact h4
  have B1:=Fi (w:=true) (o:=o) (v4:=v4) (q:=yn) (j:=0) (by kernel_rfl) h5 (by simp) ly
  generalize s3.set v5 (.lst ([]++[bh "y"]))=t1 at K1 a1 c1 B1
  have K2:Kx [v4,v5] t1 (t1.set v4 (.lst ([]++[nV (k-1)]))):=jJ m4
  have a2:(t1.set v4 (.lst ([]++[nV (k-1)])))[v4]?=some (.lst [nV (k-1)]):=yM (yk c1)
  have c2:(t1.set v4 (.lst ([]++[nV (k-1)])))[v5]?=some (.lst [bh "y"]):=by rw [yR m6];exact a1
  have B2:=rQ (w:=true) (o:=o) (v5:=v5) (q:=mn) (j:=1) (by kernel_rfl) c1 (by simp) (K1 _ _ dm km)
  generalize t1.set v4 (.lst ([]++[nV (k-1)]))=t2 at K2 a2 c2 B2
  have lC:=K1.trans K2
  have K3:Kx [v4,v5] t2 (t2.set v4 (.lst ([nV (k-1)]++[bF R]))):=jJ m4
  have a3:(t2.set v4 (.lst ([nV (k-1)]++[bF R])))[v4]?=some (.lst [nV (k-1),bF R]):=yM (yk a2)
  have c3:(t2.set v4 (.lst ([nV (k-1)]++[bF R])))[v5]?=some (.lst [bh "y"]):=by rw [yR m6];exact c2
  have B3:=rQ (w:=true) (o:=o) (v5:=v5) (q:=rn) (j:=2) (by kernel_rfl) a2 (by simp) (lC _ _ dr kr)
  have i0:=lC.trans K3
  exact ⟨_,_,_,Fe hf hl (K1 _ _ dl hl) (lC _ _ dl hl) (i0 _ _ dl hl) rfl B1 rfl B2 rfl B3,a3,c3,i0⟩
def Vb (w:Bool) (a r x m y:PV):(turn w (bh "m") (bh "r") (bh "y")).map (m3 ["n", "r", "x", "m", "y"] [a,r,x,m,y])=turn w m r y:=by cases w<;>kernel_rfl
theorem Vc {w:Bool} {R:List Nat} {k r o T rn mn yn L M N:Nat} {s:ao} (G:iZ w R k r o T rn mn yn s) (hr:s[r]?=some (ic L M N)):∃v5 t,s.length<=v5/\Old s t/\t[v5]?=some (.lst [bh "y"]) /\
  (∀v s6,m_KeyRing_name_for [.ref r,a8 w R (k-1)] t=.ok v s6->s6[v5]?=some (.lst [bh "y"])->m_Making_left_aim [.ref o,.str "again", dG w,.int (a9 w)] s=.ok (.tup [v,.tup [bh "y"]]) s6) /\
  (∀c ks zs s6,m_KeyRing_name_for [.ref r,a8 w R (k-1)] t=.err c ks zs s6->m_Making_left_aim [.ref o,.str "again", dG w,.int (a9 w)] s=.err c ks zs s6):=by
 obtain ⟨La,ob⟩:=G.ob
 obtain ⟨an,xn,th⟩:=G.th
 let s1:=s++[SO.lst []]
 let s2:=s1++[SO.lst []]
 have l1:s1.length=s.length+1:=by simp [s1]
 have l2:s2.length=s.length+2:=by simp [s2,l1]
 have o2:Old s s2:=(yb _ _).trans (yb _ _)
 let s3:=s2++[SO.lst (turn w (.ref mn) (.ref rn) (.ref yn))]
 have o3:Old s s3:=o2.trans (yb _ _)
 have hT:=xx (e:=eA w o s.length s1.length none none) (fo:=zd 0) (fa:=zd 2) (as:=turn w (bh "m") (bh "r") (bh "y")) (zk rfl) (zk rfl) (o2 _ _ ob) (o2 _ _ th) (by cases w<;>simp [turn]) (λx hx=>by
  have hx:x=bh "m" \/ x=bh "r" \/ x=bh "y" := by
   cases w
   ·simpa [turn] using hx
   ·have:=(by simpa [turn] using hx:x=bh "y" \/ x=bh "m" \/ x=bh "r")
    rcases this with q|q|q
    ·exact .inr (.inr q)
    ·exact .inl q
    ·exact .inr (.inl q)
  rcases hx with q|q|q
  ·exact ⟨"m", q,by kernel_rfl⟩
  ·exact ⟨"r", q,by kernel_rfl⟩
  ·exact ⟨"y", q,by kernel_rfl⟩)
 rw [Vb] at hT
 have lr:=yk G.kr
 have lm:=yk G.km
 have ly:=yk G.ly
 have lo:=yk ob
 have lg:=yk hr
 obtain ⟨z6,z7,t,F,h4,h5,kx⟩:=Va (k:=k) (R:=R) (fs:=ze (yu "things_at" lz (zd 0) (ze (zd 2) zj)) zj) (s:=s2) (s3:=s3) (zU hT) (yC _ _) (yb _ _ _ _ (yb _ _ _ _ (yC _ _))) (yb _ _ _ _ (yC _ _)) (o3 _ _ G.kr) (o3 _ _ G.km) (o3 _ _ G.ly) (by omega) (by
  intro a ha
  simp at ha ⊢
  omega)
 have ot:Old s t:=λm so e=>kx _ _ (by have:=yk e;simp;omega) (o3 _ _ e)
 have RG:zX (aM "ring" insOf excOf) (zd 0) (eA w o s.length s1.length z6 z7) t=.ok (.ref r) t:=yF (zk rfl) (jq (ot _ _ ob) (by decide +kernel) rfl)
 have AR:(ze (zG (ze (zd 1) (ze (zd 3) (ze (zt ja (ze (zd 4) zj)) zj)))) zj) (eA w o s.length s1.length z6 z7) t=.ok [a8 w R (k-1)] t:=zU (yl (jW (zk rfl) (zk rfl) (zR (zU (zk rfl)) (by rw [wt,yK h4]))) (by simp))
 have ST:∀{X:Res Fl},DI (eA w o s.length s1.length z6 z7) t=X->DJ [At o,some (.str "again"),some (dG w),some (.int (a9 w)),none,none,none,none] s=X:=λh=>zP (ym (wJ jp (by simp))) (zP (ym (wJ jp (by simp))) (zP F h))
 refine ⟨s1.length,t,by omega,ot,h5,λv s6 hn h6=>yw rfl (ST (yv (yl (zY (yO RG (ot _ _ hr) (by decide +kernel) (zu rfl) AR hn) (zR (zU (zk rfl)) (by rw [wt,yK h6]))) (by simp)))),λc ks zs s6 hn=>wN rfl (ST (pG (xf (xg (yO RG (ot _ _ hr) (by decide +kernel) (zu rfl) AR hn)))))⟩
theorem Vd {w:Bool} {R:List Nat} {k r o T rn mn yn L M N:Nat} {s:ao} (G:iZ w R k r o T rn mn yn s) (hr:s[r]?=some (ic L M N)):∃v5 t,s.length<=v5/\Old s t/\t[v5]?=some (.lst [bh "y"]) /\
  (∀v s6,m_KeyRing_name_for [.ref r,a8 w R (k-1)] t=.ok v s6->s6[v5]?=some (.lst [bh "y"])->m_Making_left_go [.ref o,fS w,.int 0] s=.ok (.tup [.str "go", v,.tup [bh "y"]]) s6) /\
  (∀c ks zs s6,m_KeyRing_name_for [.ref r,a8 w R (k-1)] t=.err c ks zs s6->m_Making_left_go [.ref o,fS w,.int 0] s=.err c ks zs s6):=by
 obtain ⟨v5,t,h1,h2,h3,h4,h5⟩:=Vc G hr
 obtain ⟨La,ob⟩:=G.ob
 have AR:(ze (zh zq (zd 1) (Ar 1)) (ze (zh zq (zd 1) (Ar 2)) (ze (zh zq (zX (aM "goals" insOf excOf) (zd 0)) (zd 2)) zj))) [At o,some (fS w),some (.int 0),none] s=.ok [.str "again", dG w,.int (a9 w)] s:=jW (zy (zk rfl) rfl yJ) (zy (zk rfl) rfl ww) (zy (yF (zk rfl) (jq ob (by decide +kernel) rfl)) (zk rfl) yL)
 refine ⟨v5,t,h1,h2,h3,λv s6 a b=>yw rfl (zP (ym (yO (zk rfl) ob (by decide +kernel) (zu rfl) AR (h4 v s6 a b))) (yv (yl (jW rfl (zy (zk rfl) rfl yL) (zy (zk rfl) rfl yJ)) (by simp)))),λc ks zs s6 a=>wN rfl (ia (xb (yO (zk rfl) ob (by decide +kernel) (zu rfl) AR (h5 c ks zs s6 a))))⟩
def Fj {s:ao}{d:Nat}{ks:Ad}{xs:An}{z:Str}{b:Bool}(h:s[d]?=some (.dic ks xs)) (hb:((ks.zip xs).lookup z).isSome=b):yI false (.str z) (.ref d) s=.ok (.bl b) s:=by
 simp [yI,h,hb]
section
variable {e:zc}{s s1 s2:ao}{fo fi fv:Ai}{fs:Ah}{x y:PV}{xs cU ys:An}{ks cz:Ad}{c:Str}{o r:Nat}
def Ve {j:Nat}{cn z:Str}{bt:Aj}(hd:jH z x ks xs=(cz,cU)) (hv:fv e s=.ok x s1) (ho:fo e s1=.ok (.ref r) s1) (hi:fi e s1=.ok (.str z) s1) (hr:s1[r]?=some (.dic ks xs)) (hl:ks.length<=1000):mR j cn fo fi fv bt e s=.ok (.nx e) (s1.set r (.dic cz cU)):=by
 unfold mR
 rw [hv]
 simp only
 rw [ho,jM,zL,hi,jM,zL]
 show (yW s1 r _).bind _=_
 rw [C8 hr,zu (by simp [lim];omega),zL,hd]
def Vf {cn:Str}{m:Al}(hv:fv e s=.ok x s1) (hm:bJ cn m [x] s1=.ok y s2):gz cn m fv e s=.ok y s2:=by
 unfold gz
 rw [hv,zL,hm,jM]
def Vg {name:Str}{tab:Str->Option (Al)}{m:Al}{X:Res PV}(ho:fo e s=.ok (.ref o) s1) (h:s1[o]?=some (.ins c ks xs)) (hn:name∉ks) (ht:tab c=some m) (hf:fs e s1=.ok ys s2) (hm:m (.ref o::ys) s2=X):gu name tab fo fs e s=X:=by
 unfold gu
 rw [ho,jM,zL]
 show jf s1 o _=_
 unfold jf
 rw [h]
 simp only
 rw [zF hn,ht]
 simp only
 rw [hf,jM,zL,hm]
def pK {m:Al}{X:Res PV}(hf:fs e s=.ok ys s1) (hm:m ys s1=X):gr m fs e s=X:=by
 unfold gr
 rw [hf,jM,zL,hm]
def rR {i j:Nat}{cn:Str}{bt:Aj}(hv:fv e s=.ok x s1):wU i j cn fv bt e s=.ok (.nx (e.set i (some x))) s1:=by
 unfold wU
 rw [hv]
end
def Goes (w:Bool) (R:List Nat) (k r M N:Nat) (ms:List Nat) (s:ao) (m:Res PV) (F:PV->PV):Prop:=∃t,Kx ms s t /\
 (∀v s6,m_KeyRing_name_for [.ref r,a8 w R (k-1)] t=.ok v s6->Kp M N t s6->m=.ok (F v) s6) /\
 (∀c ks zs s6,m_KeyRing_name_for [.ref r,a8 w R (k-1)] t=.err c ks zs s6->m=.err c ks zs s6)
noncomputable abbrev lD (v:PV):PV:=.tup [.str "go", v,.tup [bh "y"]]
noncomputable abbrev d_ (w:Bool):PV:=.tup [.tup [fz,d7],fS w]
section
variable {w l:Bool}{R:List Nat}{k r o La T an rn xn mn yn L M N:Nat}{s:ao}{mr:Al}
theorem Vh (G:iZ w R k r o T rn mn yn s) (hr:s[r]?=some (ic L M N)) (hM:M<s.length) (hN:N<s.length):Goes w R k r M N [] s (m_Making_left_go [.ref o,fS w,.int 0] s) lD:=by
 obtain ⟨v5,t,h1,h2,h3,h4,h5⟩:=Vd G hr
 exact ⟨t,h2.kx,λv s6 a b=>h4 v s6 a (b _ _ (by omega) (by omega) h3),h5⟩
theorem Vi (G:iZ w R k r o T rn mn yn s) (hr:s[r]?=some (ic L M N)) (hM:M<s.length) (hN:N<s.length):Goes w R k r M N [] s (m_Making_made_end mr [.ref o,fS w,.int 0] s) (λv=>.tup [.tup [],lD v]):=by
 obtain ⟨t,h1,h2,h3⟩:=Vh G hr hM hN
 obtain ⟨La,ob⟩:=G.ob
 have ST:∀{X:Res Fl},(zV (mB (zh yq (zh zq (zd 1) (Ar 0)) (As "go"))) (zH (zG (ze (zG zj) (ze (yu "left_go" rm (zd 0) (ze (zd 1) (ze (zd 2) zj))) zj)))) z0) [At o,some (fS w),some (.int 0),none,none,none] s=X->(∀v s6,X=.ok (.rt v) s6->m_Making_made_end mr [.ref o,fS w,.int 0] s=.ok v s6)/\(∀c ks zs s6,X=.err c ks zs s6->m_Making_made_end mr [.ref o,fS w,.int 0] s=.err c ks zs s6):=λh =>
  ⟨λv s6 q=>yw rfl (zP (jj (yj (zy (zy (zk rfl) rfl yL) rfl (fR (by decide +kernel) _)))) (wH (h.trans q))),λc ks zs s6 q=>wN rfl (zP (jj (yj (zy (zy (zk rfl) rfl yL) rfl (fR (by decide +kernel) _)))) (ia (h.trans q)))⟩
 refine ⟨t,h1,λv s6 a b=>(ST rfl).1 _ _ (ji (yj (zy (zy (zk rfl) rfl yL) rfl (mW _))) (yv (yl (zY (yl jp (by simp)) (yO (zk rfl) ob (by decide +kernel) (zu rfl) (zY (zk rfl) (zk rfl)) (h2 v s6 a b))) (by simp)))),λc ks zs s6 a=>(ST rfl).2 _ _ _ _ (ji (yj (zy (zy (zk rfl) rfl yL) rfl (mW _))) (pG (xf (xh (yl jp (by simp)) (xg (yO (zk rfl) ob (by decide +kernel) (zu rfl) (zY (zk rfl) (zk rfl)) (h3 c ks zs s6 a)))))))⟩
end
noncomputable abbrev bS:Aj:=(zV (mB (zh yq (zh zq (zd 4) (Ar 0)) (As "call")))
  (zA (yX (y4 jh (zd 3) (yu "left_call" q9 (zd 0) (ze (zd 4) (ze (zd 2) zj)))))
  (mG 2 gq (Ar 1)))
  (zV (mB (zh (yI false) (zh zq (zd 4) (Ar 1)) (zX (aM "later" insOf excOf) (zd 0))))
  (yX (y4 jh (zd 3) (yu "left_let" q_ (zd 0) (ze (zd 4) zj))))
  (mR 5 "Fault" (zX (aM "things" insOf excOf) (zd 0)) (zh zq (zd 4) (Ar 1)) (gz "Known" w9 (gu "answer_ahead" rl (zd 0) (ze (zd 4) zj)))
  (zH (zG (ze (zt ja (ze (zd 3) zj)) (ze (zG (ze (As "fail") (ze (zX (aM "word" insOf excOf) (zd 5)) zj))) zj)))))))
def eI.old {w:Bool}{R:List Nat}{k r o La T an rn xn:Nat}{s s':ao}(G:eI w R k r o La T an rn xn s) (h:Old s s'):eI w R k r o La T an rn xn s':=⟨h _ _ G.ob,h _ _ G.la,h _ _ G.th,h _ _ G.kn,h _ _ G.kr,h _ _ G.lx⟩
def iZ.bar {w:Bool}{R:List Nat}{k r o T rn mn yn n:Nat}{s s':ao}{xs:An}(G:iZ w R k r o T rn mn yn s) (hn:s[n]?=some (.lst xs)) (h:Kx [n] s s'):iZ w R k r o T rn mn yn s':=by
 have ne:∀{m:Nat} {so:SO},s[m]?=some so->(∀ys,so ≠ .lst ys)->s'[m]?=some so:=λ{m so} e q=>h m so (by
  intro z
  have:m=n:=by simpa using z
  subst this
  rw [e] at hn
  cases hn
  exact q xs rfl) e
 obtain ⟨La,ob⟩:=G.ob
 obtain ⟨an,xn,th⟩:=G.th
 exact ⟨⟨La,ne ob (by intro _ z;cases z)⟩,⟨an,xn,ne th (by intro _ z;cases z)⟩,ne G.kr (by intro _ z;cases z),ne G.km (by intro _ z;cases z),ne G.ly (by intro _ z;cases z)⟩
section
variable {w l:Bool}{R:List Nat}{k r o La T an rn xn mn yn L M N:Nat}{s:ao}{mr:Al}
theorem Vj (G:eI w R k r o La T an rn xn s) (hk:1<=k) (d1:o<La) (d2:La<T) (d3:T<an) (d4:an<rn) (d5:rn<xn) (hr:s[r]?=some (ic L M N)) (nr:r≠T) (hM:M<s.length) (hN:N<s.length) :
  Goes w R k r M N [T] s (m_Making_made_block mr [.ref o,d_ w,.int 0] s) (λv=>.tup [.tup [d9 k],lD v]):=by
 let lf:=s.length
 let s0:=s++[SO.lst []]
 have o0:Old s s0:=yb _ _
 have f0:s0[lf]?=some (.lst []):=yC _ _
 have G0:=G.old o0
 obtain ⟨s1,A1,o1⟩:=U8 G0 hk
 let s2:=s1++[d8 (nV (k-1))]
 have o2:Old s0 s2:=o1.trans (yb _ _)
 have G2:=G0.old o2
 let s3:=s2.set T (.dic ["n", "r", "x", "m"] [.ref an,.ref rn,.ref xn,.ref s1.length])
 have k3:Kx [T] s2 s3:=jJ (by simp)
 have lT:=yk ((G0.old o1).th)
 have M2:Fg w R k r o La T an rn xn s1.length s3:=⟨k3 _ _ (by simp;omega) G2.ob,k3 _ _ (by simp;omega) G2.la,yM (yk G2.th),k3 _ _ (by simp;omega) G2.kn,k3 _ _ (by simp;omega) G2.kr,k3 _ _ (by simp;omega) G2.lx,k3 _ _ (by simp;omega) (yC _ _)⟩
 have Fn:lf≠T:=by have:=yk G.th;show s.length≠T;omega
 have f3:s3[lf]?=some (.lst []):=k3 _ _ (by simpa using Fn) (o2 _ _ f0)
 obtain ⟨yn,s4,A4,M3,k4⟩:=U_ M2 (by omega) (by omega) (by omega)
 have f4:=k4 _ _ (by simpa using Fn) f3
 let s5:=s4.set lf (.lst ([]++[d9 k]))
 have k5:Kx [lf] s4 s5:=jJ (by simp)
 have f5:s5[lf]?=some (.lst [d9 k]):=yM (yk f4)
 have G5:=M3.bar f4 k5
 have K5:Kx [T] s s5:=λm so q e=>by
  have hm:=yk e
  exact k5 _ _ (by show m∉[s.length];simp;omega) (k4 _ _ q (k3 _ _ q (o2 _ _ (o0 _ _ e))))
 have r5:=K5 _ _ (by simpa using nr) hr
 have l5:s.length<s5.length:=yk f5
 obtain ⟨t,h1,h2,h3⟩:=Vi (mr:=mr) G5 r5 (by omega) (by omega)
 have f6:=h1 lf _ (by simp) f5
 have lc:("let" : Str) ≠ "call" := n1
 have B1:bS [At o,some (d_ w),some (.int 0),At lf,some fz,none,none] s0=.ok (.nx [At o,some (d_ w),some (.int 0),At lf,some fz,none,none]) s3:=oW (yj (zy (zy (zk rfl) rfl yL) rfl (fR lc _))) (oW (yj (zy (zy (zk rfl) rfl yJ) (yF (zk rfl) (jq G0.ob (by decide +kernel) rfl)) (Fj G0.la (by kernel_rfl)))) (Ve (UM _ _ _ _) (Vf (Vg (zk rfl) G0.ob (by decide +kernel) (zu rfl) (zU (zk rfl)) A1) (xt _ _)) (yF (zk rfl) (pJ G2.ob)) (zy (zk rfl) rfl yJ) G2.th (by decide)))
 have B2:bS [At o,some (d_ w),some (.int 0),At lf,some d7,none,none] s3=.ok (.nx [At o,some (d_ w),some (.int 0),At lf,some d7,none,none]) s5:=oW (yj (zy (zy (zk rfl) rfl yL) rfl (fR lc _))) (ji (yj (zy (zy (zk rfl) rfl yJ) (yF (zk rfl) (jq M2.ob (by decide +kernel) rfl)) (Fj M2.la (by kernel_rfl)))) (wY (iT (zk rfl) f3 (yO (zk rfl) M2.ob (by decide +kernel) (zu rfl) (zU (zk rfl)) A4) (lA f4 (by simp)))))
 obtain ⟨WY,Fo⟩:=G5.ob
 have ST:∀{X:Res Fl},vN mr [At o,some (d_ w),some (.int 0),At lf,some d7,none,none] s5=X->vO mr [At o,some (d_ w),some (.int 0),none,none,none,none] s=X:=λh=>zP (ym (wJ jp (by simp))) (zP (rJ (zy (zk rfl) rfl yL) (pI rfl B1 (pI rfl B2 rfl))) h)
 refine ⟨t,λm so q e=>h1 _ _ (by simp) (K5 _ _ q e),λv s6 a b=>yw rfl (ST (zP (ym (yO (zk rfl) Fo (by decide +kernel) (zu rfl) (zY (zy (zk rfl) rfl yJ) (zk rfl)) (h2 v s6 a b))) (yv (yl (zY (zy (zR (zU (zk rfl)) (by rw [wt,yK (b lf _ (by show s.length≠M;omega) (by show s.length≠N;omega) f6)])) (zy (zk rfl) rfl yL) (rB (xs:=[d9 k]) (ys:=[]) (by simp))) (zy (zk rfl) rfl yJ)) (by simp))))),λc ks zs s6 a=>wN rfl (ST (ia (xb (yO (zk rfl) Fo (by decide +kernel) (zu rfl) (zY (zy (zk rfl) rfl yJ) (zk rfl)) (h3 c ks zs s6 a)))))⟩
end
section
variable {s s1:ao}{n:Nat}{e:zc}
theorem Vk {fe src:Ai}{xs Y:An}(hs:src e s=.ok (.tup xs) s1) (hl:xs.length<=1000) (hy:xs.length=Y.length) (h:∀(i:Nat) x y,xs[i]?=some x->Y[i]?=some y->fe (some x::e) s1=.ok y s1):y8 (yH src) fe e s=.ok (.ref s1.length) (s1++[.lst Y]):=by
 rw [mL,kU,hs,zL]
 show fJ _ _ (.im xs) s1=_
 rw [qM,zu (by simp [lim];omega)]
 obtain ⟨ys,s2,C,h1,h2⟩:=rq (fe:=fe) (env:=e) xs (λi ys st=>ys=Y.take i/\st=s1) (λi x ys st hx ⟨h1,h2⟩=>by
  have hi:=v_ hx
  have hq:Y[i]?=some (Y[i]'(by omega)):=yB _
  subst h2
  exact ⟨_,_,h i x _ hx hq,by rw [h1,rz hq],rfl⟩) xs.length 0 [] s1 (by omega) ⟨rfl,rfl⟩
 subst h2
 rw [hy,List.take_length] at h1
 subst h1
 exact C
theorem Vl {fe src:Ai}{ft:Ak}{xs:An}{p:PV->Bool}{f:PV->PV}(hs:src e s=.ok (.ref n) s1) (hn:s1[n]?=some (.lst xs)) (hl:xs.length<=1000) (h:∀x∈xs,ft (some x::e) s1=.ok (p x) s1) (h':∀x∈xs,p x=true->fe (some x::e) s1=.ok (f x) s1):oV (yH src) ft fe e s=.ok (.ref s1.length) (s1++[.lst (xs.flatMap λx=>if p x=true then [f x] else [])]):=by
 rw [Ny,kU,hs,zL,uP,yK hn,zL]
 have:=ED (f:=f) (env:=e) xs hn h h' xs.length 0 (lim+1) [] (by omega) (by simp [lim];omega)
 rw [List.nil_append,List.drop_zero] at this
 exact this
end
def Vm (w:Bool) (st:ao):lu 5 [d_ w] st=.ok (.tup [fz,d7,fS w]) st:=by cases w<;>kernel_rfl
def Vn (st:ao):iX [fz] st=.ok .non st:=by kernel_rfl
def Vo (st:ao):iX [d7] st=.ok .non st:=by kernel_rfl
def Vp (w:Bool) (st:ao):iX [fS w] st=.ok (.tup [.str "again", dG w]) st:=by cases w<;>kernel_rfl
noncomputable def Fp:PV->Bool
 | .non=>false
 | _=>true
def Vq (w:Bool) (st:ao):∃s1,pk [d_ w] st=.ok (.tup [.tup [.str "again", dG w]]) s1/\Old st s1:=by
 have C:=Vk (e:=[some (d_ w),none]) (fe:=zt iX (ze (zd 0) zj)) (Y:=[.non,.non,.tup [.str "again", dG w]]) (s:=st) (s1:=st) (src:=zt (lu 5) (ze (zd 0) zj)) (zR (zU (zk rfl)) (Vm w st)) (by simp) rfl (λi x y hx hy=>by
  match i with
  | 0=>cases hx;cases hy;exact zR (zU (zk rfl)) (Vn st)
  | 1=>cases hx;cases hy;exact zR (zU (zk rfl)) (Vo st)
  | 2=>cases hx;cases hy;exact zR (zU (zk rfl)) (Vp w st)
  | i+3=>cases hx)
 have D:=Vl (e:=[some (d_ w),At st.length]) (src:=zd 1) (ft:=mB (zh wj (zd 0) (mC .non))) (fe:=zd 0) (p:=Fp) (f:=id) (n:=st.length) (s:=st++[SO.lst [.non,.non,.tup [.str "again", dG w]]]) (s1:=st++[SO.lst [.non,.non,.tup [.str "again", dG w]]]) (zk rfl) (yC _ _) (by simp) (λx hx=>by
  have hx:x=.non\/x=.tup [.str "again", dG w]:=by
   simp at hx
   exact hx
  rcases hx with q|q
  ·subst q;exact yj (zy (zk rfl) rfl rfl)
  ·subst q;exact yj (zy (zk rfl) rfl rfl)) (λx hx _=>zk rfl)
 exact ⟨_,yw rfl (zP (ym C) (yv (zR (zU D) mZ))),(yb _ _).trans (yb _ _)⟩
section
variable {w l:Bool}{R:List Nat}{k r o La T an rn xn mn yn L M N:Nat}{s:ao}{mr:Al}
theorem Vr (G:eI w R k r o La T an rn xn s) (i:Int):m_Making_made_end mr [.ref o,cW l,.int i] s=.ok (.tup [.tup [],cW l]) s:=by
 cases l
 ·exact yw rfl (zP (jj (yj (zy (zy (zk rfl) rfl yL) rfl (fR (by decide +kernel) _)))) (zP (jj (yj (zy (zy (zk rfl) rfl yL) rfl (fR (by decide +kernel) _)))) (zP (ym (zR (zY (zy (zk rfl) rfl yJ) (yF (zk rfl) (pJ G.ob))) (xw (z := "x") G.th (by kernel_rfl)))) (wH (ji (yj (zy (zy (zk rfl) rfl yL) rfl (mW _))) (yv (yl (zY (yl jp (by simp)) (yl (zY rfl (rO ⟨xn,rfl,.inr ⟨_,G.lx,rfl⟩⟩ (zk rfl))) (by simp))) (by simp))))))))
 ·exact yw rfl (wH (ji (yj (zy (zy (zk rfl) rfl yL) rfl (mW _))) (yv (yl (zY (yl jp (by simp)) (zk rfl)) (by simp)))))
def Vs (G:eI w R k r o La T an rn xn s) (i:Int):∃s1,m_Making_made_block mr [.ref o,.tup [.tup [],cW l],.int i] s=.ok (.tup [.tup [],cW l]) s1/\Old s s1:=by
 have o0:Old s (s++[SO.lst []]):=yb _ _
 have G0:=G.old o0
 exact ⟨_,yw rfl (zP (ym (wJ jp (by simp))) (zP (rJ (zy (zk rfl) rfl yL) rfl) (zP (ym (yO (zk rfl) G0.ob (by decide +kernel) (zu rfl) (zY (zy (zk rfl) rfl yJ) (zk rfl)) (Vr G0 i))) (yv (yl (zY (zy (zR (zU (zk rfl)) mZ) (zy (zk rfl) rfl yL) (rB (xs:=[]) (ys:=[]) (by simp))) (zy (zk rfl) rfl yJ)) (by simp)))))),o0⟩
theorem Vt (G:eI w R k r o La T an rn xn s) (hk:k=0):∃s1,m_Making_decided (m_Making_made_block mr) [.ref o,fA w l,nV k,.int 0] s=.ok (.tup [.tup [],cW l]) s1/\Old s s1:=by
 subst hk
 obtain ⟨s1,A,o1⟩:=Vq w s
 have G1:=G.old o1
 obtain ⟨s2,B,o2⟩:=Vs (mr:=mr) (l:=l) G1 1
 have L1:yr [.tup [.tup [.str "again", dG w]]] s1=.ok (.int 1) s1:=rfl
 have E:mT [nV 0] s=.ok (.bl false) s:=Fb 0 s
 exact ⟨s2,yw rfl (zP (rR (pK (zU (zk rfl)) E)) (zP (jj (yj (zk rfl))) (yv (yO (zk rfl) G.ob (by decide +kernel) (zu rfl) (zY (zy (zk rfl) rfl rA) (zy (zk rfl) (zR (zU (zR (zU (zy (zk rfl) rfl ww)) A)) L1) (vk 0 1))) B)))),o1.trans o2⟩
end
noncomputable abbrev gU (w l:Bool):PV:=.tup [.tup [],fA w l]
section
variable {w l:Bool}{R:List Nat}{k r o La T an rn xn L M N:Nat}{s s6:ao}{mr:Al}{v:PV}{c:Str}{ks:Ad}{zs:An}
theorem Vu (G:eI w R k r o La T an rn xn s) (hk:1<=k) (d1:o<La) (d2:La<T) (d3:T<an) (d4:an<rn) (d5:rn<xn) (hr:s[r]?=some (ic L M N)) (nr:r≠T) (hM:M<s.length) (hN:N<s.length) :
  Goes w R k r M N [T] s (m_Making_decided (m_Making_made_block mr) [.ref o,fA w l,nV k,.int 0] s) (λv=>.tup [.tup [d9 k],lD v]):=by
 obtain ⟨t,h1,h2,h3⟩:=Vj (mr:=mr) G hk d1 d2 d3 d4 d5 hr nr hM hN
 have E:mT [nV k] s=.ok (.bl true) s:=(Fb _ s).trans (by rw [il (by omega)])
 refine ⟨t,h1,λv s6 a b=>yw rfl (zP (rR (pK (zU (zk rfl)) E)) (wH (ji (yj (zk rfl)) (yv (yO (zk rfl) G.ob (by decide +kernel) (zu rfl) (zY (zy (zk rfl) rfl ww) (zk rfl)) (h2 v s6 a b)))))),λc ks zs s6 a=>wN rfl (zP (rR (pK (zU (zk rfl)) E)) (ia (ji (yj (zk rfl)) (pG (yO (zk rfl) G.ob (by decide +kernel) (zu rfl) (zY (zy (zk rfl) rfl ww) (zk rfl)) (h3 c ks zs s6 a))))))⟩
theorem Fq {X:Res Fl}(G:eI w R k r o La T an rn xn s) (h:Ek mr [At o,some (fA w l),some (.int 0),At an,none,none] s=X):El mr [At o,some (fA w l),some (.int 0),none,none,none] s=X :=
 zP (jj (yj (zy (zy (zk rfl) rfl yL) rfl (fR (by decide +kernel) _)))) (zP (jj (yj (zy (zy (zk rfl) rfl yL) rfl (fR (by decide +kernel) _)))) (zP (ym (zR (zY (zy (zk rfl) rfl yJ) (yF (zk rfl) (pJ G.ob))) (xw (z := "n") G.th (by kernel_rfl)))) (zP (jj (yj (zy (zy (zk rfl) rfl yL) rfl (fR (by decide +kernel) _)))) h)))
def Ft (st:ao) (n:Nat):m_Known_ahead [.ref n] st=.ok (.bl true) st:=yw rfl (yv rfl)
theorem Fu (G:eI w R k r o La T an rn xn s) (h:m_Making_decided mr [.ref o,fA w l,nV k,.int 0] s=.ok v s6):m_Making_made_end mr [.ref o,fA w l,.int 0] s=.ok v s6 :=
 yw rfl (Fq G (wH (ji (yj (yO (zk rfl) G.kn (by decide +kernel) (zu rfl) jp (Ft _ _))) (yv (yO (zk rfl) G.ob (by decide +kernel) (zu rfl) (jW (zk rfl) (rP G.kn (zk rfl)) (zk rfl)) h)))))
def Vv (G:eI w R k r o La T an rn xn s) (h:m_Making_decided mr [.ref o,fA w l,nV k,.int 0] s=.err c ks zs s6):m_Making_made_end mr [.ref o,fA w l,.int 0] s=.err c ks zs s6 :=
 wN rfl (Fq G (ia (ji (yj (yO (zk rfl) G.kn (by decide +kernel) (zu rfl) jp (Ft _ _))) (pG (yO (zk rfl) G.ob (by decide +kernel) (zu rfl) (jW (zk rfl) (rP G.kn (zk rfl)) (zk rfl)) h)))))
def xA {X:Res Fl}(h:vN mr [At o,some (gU w l),some (.int 0),At s.length,none,none,none] (s++[.lst []])=X):vO mr [At o,some (gU w l),some (.int 0),none,none,none,none] s=X :=
 zP (ym (wJ jp (by simp))) (zP (rJ (zy (zk rfl) rfl yL) rfl) h)
def Fv:wv 4=m_Making_made_block (m_Making_made_block (wv 2)):=rfl
theorem Vw (G:eI w R k r o La T an rn xn s) (hk:1<=k) (d1:o<La) (d2:La<T) (d3:T<an) (d4:an<rn) (d5:rn<xn) (hr:s[r]?=some (ic L M N)) (nr:r≠T) (hM:M<s.length) (hN:N<s.length) :
  Goes w R k r M N [T] s (wv 4 [.ref o,gU w l,.int 0] s) (λv=>.tup [.tup [d9 k],lD v]):=by
 rw [Fv]
 have o0:Old s (s++[SO.lst []]):=yb _ _
 have f0:(s++[SO.lst []])[s.length]?=some (.lst []):=yC _ _
 have G0:=G.old o0
 obtain ⟨t,h1,h2,h3⟩:=Vu (l:=l) (mr:=wv 2) G0 hk d1 d2 d3 d4 d5 (o0 _ _ hr) nr (by simp;omega) (by simp;omega)
 have lT:=yk G.th
 have f1:=h1 s.length _ (by simp;omega) f0
 refine ⟨t,λm so q e=>h1 _ _ q (o0 _ _ e),λv s6 a b=>?_,λc ks zs s6 a=>?_⟩
 ·have f6:=b s.length _ (by omega) (by omega) f1
  exact yw rfl (xA (zP (ym (yO (zk rfl) G0.ob (by decide +kernel) (zu rfl) (zY (zy (zk rfl) rfl yJ) (zk rfl)) (Fu G0 (h2 v s6 a b)))) (yv (yl (zY (zy (zR (zU (zk rfl)) (by rw [wt,yK f6])) (zy (zk rfl) rfl yL) (rB (xs:=[]) (ys:=[d9 k]) (by simp))) (zy (zk rfl) rfl yJ)) (by simp)))))
 ·exact wN rfl (xA (ia (xb (yO (zk rfl) G0.ob (by decide +kernel) (zu rfl) (zY (zy (zk rfl) rfl yJ) (zk rfl)) (Vv G0 (h3 c ks zs s6 a))))))
def Vx (G:eI w R k r o La T an rn xn s) (hk:k=0):∃s1,wv 4 [.ref o,gU w l,.int 0] s=.ok (.tup [.tup [],cW l]) s1/\Old s s1:=by
 rw [Fv]
 have o0:Old s (s++[SO.lst []]):=yb _ _
 have G0:=G.old o0
 obtain ⟨s1,A,o1⟩:=Vt (l:=l) (mr:=wv 2) G0 hk
 exact ⟨s1,yw rfl (xA (zP (ym (yO (zk rfl) G0.ob (by decide +kernel) (zu rfl) (zY (zy (zk rfl) rfl yJ) (zk rfl)) (Fu G0 A))) (yv (yl (zY (zy (zR (zU (zk rfl)) (by rw [wt,yK (o1 _ _ (yC _ _))])) (zy (zk rfl) rfl yL) (rB (xs:=[]) (ys:=[]) (by simp))) (zy (zk rfl) rfl yJ)) (by simp))))),o0.trans o1⟩
end
noncomputable abbrev cD (m j:Nat):PV:=.tup [.str (qN j),.tup [.str "x"],.tup [.tup [d9 (m-j)],lD (.str (qN (j+1)))]]
noncomputable abbrev gA (l:Bool) (m:Nat):PV:=.tup [.str (qN m),.tup [.str "x"],.tup [.tup [],cW l]]
def cM.kx {w:Bool}{R:List Nat}{m L c r M N T:Nat}{s s':ao}(h:cM w R m L c r M N s) (o:Kx [T] s s') (n1:r≠T) (n2:M≠T) (n3:N≠T):cM w R m L c r M N s':=⟨o _ _ (by simpa using n1) h.at_,o _ _ (by simpa using n2) h.met,by
 have:=h.nms
 cases e:s[N]? with
 | none=>rw [e] at this;cases this
 | some so=>rw [o _ _ (by simpa using n3) e];rw [e] at this;exact this,h.rM,h.rN,h.MN⟩
def cM.ltN {w:Bool}{R:List Nat}{m L c r M N:Nat}{s:ao}(h:cM w R m L c r M N s):N<s.length:=by
 have:=h.nms
 cases e:s[N]? with
 | none=>rw [e] at this;cases this
 | some so=>exact yk e
section
variable {w l:Bool}{R:List Nat}{m L c r M N j:Nat}{s s6:ao}
def Fw (l:Bool) (hR:Rw R) (hm:m<10 ^ 18) (hc:c<=m+1) (hj:j<c) (G:cM w R m L c r M N s):∃o La T an rn xn s3,eI w R (m-j) r o La T an rn xn s3/\s.length<=o/\o<La/\La<T/\T<an/\an<rn/\rn<xn/\Old s s3 /\
  (∀b s6,wv 4 [.ref o,gU w l,.int 0] s3=.ok b s6->jV [.ref r,a8 w R (m-j),bZ w l,bB w] s=.ok (.tup [.str (qN j),.tup [.str "x"],b]) s6) /\
  (∀c ks zs s6,wv 4 [.ref o,gU w l,.int 0] s3=.err c ks zs s6->jV [.ref r,a8 w R (m-j),bZ w l,bB w] s=.err c ks zs s6):=by
 obtain ⟨La,T,an,rn,xn,s1,E1,K1,a1,a2,a3,a4,a5,o1⟩:=UP w l R (m-j) r s
 have G1:=G.old o1
 obtain ⟨s2,E2,o2⟩:=UA hR hm hc hj G1
 have o3:Old s2 (s2++[SO.lst [.str "x"]]):=yb _ _
 have K3:=(K1.old o2).old o3
 have ST:∀{X:Res Fl},En [At r,some (a8 w R (m-j)),some (bZ w l),some (bB w),At s.length] s1=X->Eo [At r,some (a8 w R (m-j)),some (bZ w l),some (bB w),none] s=X:=λh=>zP (ym (zR (pD (zk rfl) (zk rfl) (zk rfl) (zy (zk rfl) rfl ww)) E1)) h
 refine ⟨s.length,La,T,an,rn,xn,_,K3,yd _,a1,a2,a3,a4,a5,o1.trans (o2.trans o3),λb s6 h=>yw rfl (ST (yv (yl (jW (yO (zk rfl) G1.at_ (by decide +kernel) (zu rfl) (zU (zk rfl)) E2) (zR (zY (zk rfl) (zy (zk rfl) rfl yJ)) (xq w l s2)) (yO (zk rfl) K3.ob (by decide +kernel) (zu rfl) (zY (zy (zk rfl) rfl ww) rfl) h)) (by simp)))),λc ks zs s6 h=>wN rfl (ST (pG (xf (xh (yO (zk rfl) G1.at_ (by decide +kernel) (zu rfl) (zU (zk rfl)) E2) (xh (zR (zY (zk rfl) (zy (zk rfl) rfl yJ)) (xq w l s2)) (xg (yO (zk rfl) K3.ob (by decide +kernel) (zu rfl) (zY (zy (zk rfl) rfl ww) rfl) h)))))))⟩
theorem Vy (l:Bool) (hR:Rw R) (hm:m<10 ^ 18) (hc:c=m+1) (G:cM w R m L c r M N s):∃s1,jV [.ref r,a8 w R (m-(c-1)),bZ w l,bB w] s=.ok (gA l m) s1/\Old s s1:=by
 obtain ⟨o,La,T,an,rn,xn,s3,K,_,_,_,_,_,_,o3,h,_⟩:=Fw l hR hm (j:=c-1) (by omega) (by omega) G
 obtain ⟨s4,E,o4⟩:=Vx (l:=l) K (by omega)
 have:=h _ _ E
 rw [show (c-1)=m by omega] at this ⊢
 exact ⟨s4,this,o3.trans o4⟩
theorem xB (l:Bool) (hR:Rw R) (hm:m<10 ^ 18) (h1:1<=c) (hc:c<=m) (G:cM w R m L c r M N s) :
  (c<L->L<=1000->∃s1,jV [.ref r,a8 w R (m-(c-1)),bZ w l,bB w] s=.ok (cD m (c-1)) s1/\cM w R m L (c+1) r M N s1/\Kp M N s s1) /\
  (c=L->∃s1,jV [.ref r,a8 w R (m-(c-1)),bZ w l,bB w] s=.err "TooMany" ["limit"] [nV L] s1):=by
 obtain ⟨o,La,T,an,rn,xn,s3,K,b0,b1,b2,b3,b4,b5,o3,hok,Fx⟩:=Fw l hR hm (j:=c-1) (by omega) (by omega) G
 have G3:=G.old o3
 have lr:=yk G.at_
 have lM:=yk G.met
 have lN:=G.ltN
 have l3:=yk G3.met
 have Vz:=G3.ltN
 obtain ⟨t,k1,k2,k3⟩:=Vw (l:=l) K (by omega) b1 b2 b3 b4 b5 G3.at_ (by omega) l3 Vz
 have Gt:=G3.kx k1 (by omega) (by omega) (by omega)
 have ek:m-(c-1)-1=m-c:=by omega
 rw [ek] at k2 k3
 have kp:Kp M N s t:=λi so q q' e=>k1 _ _ (by have:=yk e;simp;omega) (o3 _ _ e)
 refine ⟨λhL h9=>?_,λhL=>?_⟩
 ·obtain ⟨s6,E,G6,K6⟩:=ES hR hm hc hL h9 Gt
  have e1:c-1+1=c:=by omega
  refine ⟨s6,?_,G6,kp.trans K6⟩
  have:=hok _ _ (k2 _ _ E K6)
  show _=Res.ok (PV.tup [.str (qN (c-1)),.tup [.str "x"],.tup [.tup [d9 (m-(c-1))],lD (.str (qN (c-1+1)))]]) s6
  rw [e1]
  exact this
 ·obtain ⟨s6,E⟩:=UD hR hm hc hL Gt
  exact ⟨s6,Fx _ _ _ _ (k3 _ _ _ _ E)⟩
end
def VA {fa fb:Ai}{e:zc}{st s1 s2:ao}{op:Am}{n:Nat}{ys:An}{c:Str}{ks:Ad}{zs:An}(h:fa e st=.ok (.ref n) s1) (hl:s1[n]?=some (.lst ys)) (h':fb e s1=.err c ks zs s2):y4 op fa fb e st=.err c ks zs s2:=by
 rw [Cc,h,zL,Cd]
 simp only [yp,hl,zL]
 rw [h',wV]
noncomputable abbrev bW:Aj:=(zA (zO 9 (zh (aS zq) (zX (aM "met" insOf excOf) (zd 7)) (zt yr (ze (zd 8) zj))))
  (yX (y4 jh (zd 8) (zt jV (ze (zd 7) (ze (zd 9) (ze (zh (aS zq) (zd 5) (zh (aS zq) (zd 9) (Ar 0))) (ze (zh (aS zq) (zd 6) (zG (ze (zh (aS zq) (zd 9) (Ar 0)) (ze (zh (aS zq) (zd 9) (Ar 1)) zj)))) zj))))))))
noncomputable abbrev tW:Ak:=(mB (zh j5 (zt yr (ze (zd 8) zj)) (zt yr (ze (zX (aM "met" insOf excOf) (zd 7)) zj))))
noncomputable abbrev eW (w l:Bool) (R:List Nat) (m L f g r md:Nat) (z9:Option PV):zc:=[some (cB w l),some (dF w),some (.tup [nV m,bF R]),some (nV L),some .non,At f,At g,At r,At md,z9]
structure Wh (w l:Bool) (R:List Nat) (m L f g r md M N i c:Nat) (fs:An) (s:ao):Prop where
 rg:cM w R m L c r M N s
 fu:s[f]?=some (.dic ["again"] [bZ w l])
 fo:s[g]?=some (.dit [[.inr "again", .inl (a9 w)]] [bB w])
 ml:s[md]?=some (.lst fs)
 ln:fs.length=i
 n1:f≠M/\f≠N/\g≠M/\g≠N/\md≠M/\md≠N
section
variable {w l:Bool}{R:List Nat}{m L f g r md M N i c:Nat}{fs:An}{s:ao}{z9:Option PV}
def Wh.app {v:PV}{s1:ao}{c':Nat}(W:Wh w l R m L f g r md M N i c fs s) (G:cM w R m L c' r M N s1) (k:Kp M N s s1):Wh w l R m L f g r md M N (i+1) c' (fs++[v]) (s1.set md (.lst (fs++[v]))):=by
 obtain ⟨a1,a2,a3,a4,a5,a6⟩:=W.n1
 have fu:=k _ _ a1 a2 W.fu
 have fo:=k _ _ a3 a4 W.fo
 have hm:=k _ _ a5 a6 W.ml
 have ne:∀{q:Nat} {so:SO},s1[q]?=some so->(∀ys,so ≠ .lst ys)->(s1.set md (.lst (fs++[v])))[q]?=some so:=λ{q so} e d=>by
  rw [yR]
  ·exact e
  ·intro z
   subst z
   rw [hm] at e
   cases e
   exact d _ rfl
 refine ⟨⟨ne G.at_ (by intro _ z;cases z),?_,?_,G.rM,G.rN,G.MN⟩,ne fu (by intro _ z;cases z),ne fo (by intro _ z;cases z),yM (yk hm),by simp [W.ln],W.n1⟩
 ·rw [yR a5];exact G.met
 ·rw [yR a6];exact G.nms
def pL (W:Wh w l R m L f g r md M N i c fs s) (b:Bool) (hb:decide (i<c)=b):tW (eW w l R m L f g r md z9) s=.ok b s:=by
 have l1:yr [.ref md] s=.ok (nV i) s:=by rw [cA W.ml,W.ln]
 have l2:yr [.ref M] s=.ok (nV c) s:=by rw [cA W.rg.met];simp
 exact yj (zy (zR (zU (zk rfl)) l1) (zR (zU (yF (zk rfl) (jq W.rg.at_ (by decide +kernel) rfl))) l2) (pA b (by rw [<-hb];simp) _))
def VB (h:s[M]?=some (.lst fs)) {v:PV}(hi:fs[i]?=some v):aS zq (.ref M) (.int (i:Int)) s=.ok v s:=by
 show zq (.ref M) (.int (i:Int)) s=_
 show yp s M _=_
 rw [yK h,bH hi]
 rfl
def Fy (W:Wh w l R m L f g r md M N i c fs s) (hi:i<c):(zO 9 (zh (aS zq) (zX (aM "met" insOf excOf) (zd 7)) (zt yr (ze (zd 8) zj)))) (eW w l R m L f g r md z9) s=.ok (.nx (eW w l R m L f g r md (some (a8 w R (m-i))))) s:=by
 have l1:yr [.ref md] s=.ok (nV i) s:=by rw [cA W.ml,W.ln]
 exact ym (zy (yF (zk rfl) (jq W.rg.at_ (by decide +kernel) rfl)) (zR (zU (zk rfl)) l1) (VB W.rg.met (by rw [jY,List.getElem?_range hi];rfl)))
def Fz (W:Wh w l R m L f g r md M N i c fs s):(ze (zd 7) (ze (zd 9) (ze (zh (aS zq) (zd 5) (zh (aS zq) (zd 9) (Ar 0))) (ze (zh (aS zq) (zd 6) (zG (ze (zh (aS zq) (zd 9) (Ar 0)) (ze (zh (aS zq) (zd 9) (Ar 1)) zj)))) zj)))) (eW w l R m L f g r md (some (a8 w R (m-i)))) s=.ok [.ref r,a8 w R (m-i),bZ w l,bB w] s:=by
 have I1:aS zq (.ref f) (.str "again") s=.ok (bZ w l) s:=Fd W.fu (by kernel_rfl)
 have I2:=xj (old:=zq) (zs:=[.str "again", .int (a9 w)]) (k:=[.inr "again", .inl (a9 w)]) (x:=bB w) rfl (show cg s[g]?=_ by rw [W.fo];rfl) (by unfold gy;rw [zu rfl])
 rw [rF W.fo] at I2
 exact pD (zk rfl) (zk rfl) (zy (zk rfl) (zy (zk rfl) rfl (gO.trans yL)) I1) (zy (zk rfl) (yl (zY (zy (zk rfl) rfl (gO.trans yL)) (zy (zk rfl) rfl (gO.trans yJ))) (by simp)) I2)
theorem xC {v:PV}{s1:ao}(W:Wh w l R m L f g r md M N i c fs s) (hi:i<c) (h9:fs.length<=1000) (h:jV [.ref r,a8 w R (m-i),bZ w l,bB w] s=.ok v s1) (k:Kp M N s s1):bW (eW w l R m L f g r md z9) s=.ok (.nx (eW w l R m L f g r md (some (a8 w R (m-i))))) (s1.set md (.lst (fs++[v]))) :=
 zP (Fy W hi) (wY (iT (zk rfl) W.ml (zR (Fz W) h) (lA (k _ _ W.n1.2.2.2.2.1 W.n1.2.2.2.2.2 W.ml) (by omega))))
def VC {c':Str}{ks:Ad}{zs:An}{s1:ao}(W:Wh w l R m L f g r md M N i c fs s) (hi:i<c) (h:jV [.ref r,a8 w R (m-i),bZ w l,bB w] s=.err c' ks zs s1):bW (eW w l R m L f g r md z9) s=.err c' ks zs s1 :=
 zP (Fy W hi) (Ux (VA (zk rfl) W.ml (zR (Fz W) h)))
theorem FA (hR:Rw R) (hm:m<10 ^ 18) (hL:m+1<=L) (h9:L<=1000):∀(n i fuel:Nat) (s:ao) (z9:Option PV),i+n=m->n+2<=fuel->Wh w l R m L f g r md M N i (i+1) ((List.range i).map (cD m)) s->∃VD s1,bO tW bW fuel (eW w l R m L f g r md z9) s=.ok (.nx (eW w l R m L f g r md VD)) s1/\Wh w l R m L f g r md M N (m+1) (m+1) ((List.range m).map (cD m)++[gA l m]) s1
 | 0,i,fuel,s,z9,hn,hf,W=>by
  obtain ⟨fuel,rfl⟩:∃x,fuel=x+2:=⟨fuel-2,by omega⟩
  have hi:i=m:=by omega
  subst hi
  obtain ⟨s1,E,o⟩:=Vy l hR hm (c:=i+1) rfl W.rg
  have E:jV [.ref r,a8 w R (i-i),bZ w l,bB w] s=.ok (gA l i) s1:=E
  have W1:=W.app (v:=gA l i) (W.rg.old o) o.kp
  exact ⟨_,_,rL (pL W true (by simp)) (xC W (by omega) (by simp;omega) E o.kp) (Fc fuel (pL W1 false (by simp))),W1⟩
 | n+1,i,fuel,s,z9,hn,hf,W=>by
  obtain ⟨fuel,rfl⟩:∃x,fuel=x+1:=⟨fuel-1,by omega⟩
  obtain ⟨s1,E,G1,k1⟩:=(xB l hR hm (c:=i+1) (by omega) (by omega) W.rg).1 (by omega) h9
  have E:jV [.ref r,a8 w R (m-i),bZ w l,bB w] s=.ok (cD m i) s1:=E
  have W1:=W.app (v:=cD m i) G1 k1
  have el:(List.range i).map (cD m)++[cD m i]=(List.range (i+1)).map (cD m):=by simp [ke]
  have B:=xC (z9:=z9) W (by omega) (by simp;omega) E k1
  rw [el] at W1 B
  obtain ⟨z,s2,E2,W2⟩:=FA hR hm hL h9 n (i+1) fuel _ (some (a8 w R (m-i))) (by omega) (by omega) W1
  exact ⟨z,s2,rL (pL W true (by simp)) B E2,W2⟩
theorem FC (hR:Rw R) (hm:m<10 ^ 18) (hL:L<=m) (h9:L<=1000):∀(n i fuel:Nat) (s:ao) (z9:Option PV),i+1+n=L->n+1<=fuel->Wh w l R m L f g r md M N i (i+1) ((List.range i).map (cD m)) s->∃s1,bO tW bW fuel (eW w l R m L f g r md z9) s=.err "TooMany" ["limit"] [nV L] s1
 | 0,i,fuel,s,z9,hn,hf,W=>by
  obtain ⟨fuel,rfl⟩:∃x,fuel=x+1:=⟨fuel-1,by omega⟩
  obtain ⟨s1,E⟩:=(xB l hR hm (c:=i+1) (by omega) (by omega) W.rg).2 (by omega)
  have E:jV [.ref r,a8 w R (m-i),bZ w l,bB w] s=.err "TooMany" ["limit"] [nV L] s1:=E
  exact ⟨_,UW (pL W true (by simp)) (VC W (by omega) E)⟩
 | n+1,i,fuel,s,z9,hn,hf,W=>by
  obtain ⟨fuel,rfl⟩:∃x,fuel=x+1:=⟨fuel-1,by omega⟩
  obtain ⟨s1,E,G1,k1⟩:=(xB l hR hm (c:=i+1) (by omega) (by omega) W.rg).1 (by omega) h9
  have E:jV [.ref r,a8 w R (m-i),bZ w l,bB w] s=.ok (cD m i) s1:=E
  have W1:=W.app (v:=cD m i) G1 k1
  have el:(List.range i).map (cD m)++[cD m i]=(List.range (i+1)).map (cD m):=by simp [ke]
  have B:=xC (z9:=z9) W (by omega) (by simp;omega) E k1
  rw [el] at W1 B
  obtain ⟨s2,E2⟩:=FC hR hm hL h9 n (i+1) fuel _ (some (a8 w R (m-i))) (by omega) (by omega) W1
  exact ⟨s2,rL (pL W true (by simp)) B E2⟩
end
noncomputable abbrev i_ (l:Bool) (m:Nat):An:=(List.range m).map (cD m)++[gA l m]
noncomputable abbrev j_ (w:Bool) (R:List Nat) (m:Nat):An:=(List.range (m+1)).map λj=>a8 w R (m-j)
theorem VE (w l:Bool) (A B:An) {R:List Nat}{m L:Nat}(hR:Rw R) (hm:m<10 ^ 18) (h1:1<=L) (h9:L<=1000):∃s1,mU [cB w l,.int (a9 w),.tup []] (pE A B)=.ok (dF w) s1 /\
  (m+1<=L->∃s2,eh [cB w l,dF w,.tup [nV m,bF R],nV L] s1=.ok (.tup [.tup (i_ l m),.tup (j_ w R m)]) s2) /\
  (L<=m->∃s2,eh [cB w l,dF w,.tup [nV m,bF R],nV L] s1=.err "TooMany" ["limit"] [nV L] s2):=by
 obtain ⟨s1,s2,s3,s4,f,g,E1,E2,E3,E4,hf,hg⟩:=Uk w l A B
 obtain ⟨s5,E5,G5,o5⟩:=UE w R m L s4
 have lf:=yk hf
 have lg:=yk hg
 obtain ⟨s6,E6,G6,k6⟩:=ES hR hm (jc m) (by omega) h9 G5
 have E6:m_KeyRing_name_for [.ref s4.length,a8 w R m] s5=.ok (.str (qN 0)) s6:=E6
 have o7:Old s6 (s6++[SO.lst []]):=yb _ _
 have lM:=yk G6.met
 have lN:=G6.ltN
 have W:Wh w l R m L f g s4.length s6.length (s4.length+1) (s4.length+2) 0 1 ((List.range 0).map (cD m)) (s6++[SO.lst []]):=⟨G6.old o7,o7 _ _ (k6 _ _ (by omega) (by omega) (o5 _ _ hf)),o7 _ _ (k6 _ _ (by omega) (by omega) (o5 _ _ hg)),yC _ _,rfl,by omega⟩
 have ST:∀{X:Res Fl},Ep (eW w l R m L f g s4.length s6.length none) (s6++[SO.lst []])=X->Es [some (cB w l),some (dF w),some (.tup [nV m,bF R]),some (nV L),none,none,none,none,none,none] s1=X:=λh =>
  zP (ym (zR (zY (zk rfl) (zk rfl)) E2)) (zP (jj (yj (zy (zk rfl) rfl rfl))) (zP (ym (zR (zU (zk rfl)) E3)) (zP (ym (zR (zU (zk rfl)) E4)) (zP (ym (zR (zU (zk rfl)) E5)) (zP (wY (yO (zk rfl) G5.at_ (by decide +kernel) (zu rfl) (zU (yl (jW (zy (zy (zk rfl) rfl (gO.trans yL)) rfl (gO.trans yL)) (zy (zy (zk rfl) rfl (gO.trans yL)) rfl (gO.trans yJ)) (zk rfl)) (by simp))) E6)) (zP (ym (wJ jp (by simp))) h))))))
 refine ⟨s1,E1,λhL=>?_,λhL=>?_⟩
 ·obtain ⟨z,s8,E8,W8⟩:=FA hR hm hL h9 m 0 1000000 _ none (by omega) (by omega) W
  exact ⟨s8,yw rfl (ST (zP E8 (yv (yl (zY (zR (zU (zk rfl)) (by rw [wt,yK W8.ml])) (zR (zU (yF (zk rfl) (jq W8.rg.at_ (by decide +kernel) rfl))) (by rw [wt,yK W8.rg.met]))) (by simp)))))⟩
 ·obtain ⟨s8,E8⟩:=FC hR hm hL h9 (L-1) 0 1000000 _ none (by omega) (by omega) W
  exact ⟨s8,wN rfl (ST (ia E8))⟩
inductive fV:Nat->PV->Prop
 | int (n:Nat) (i:Int):fV n (.int i)
 | str (n:Nat) (z:Str):fV n (.str z)
 | tup (n:Nat) (xs:An):(∀x∈xs,fV n x)->fV (n+1) (.tup xs)
theorem FE {n:Nat}:∀{xs:An},(∀x∈xs,Mi.plain x=true/\dep x<=n/\bz x x=true)->bV xs=true/\dX xs<=n/\dY xs xs=true
 | [],_=>⟨rfl,by simp [dX],by rw [dY]⟩
 | x::xs,h=>by
  obtain ⟨a,b,c⟩:=h x (jk ..)
  obtain ⟨a',b',c'⟩:=FE λy hy=>h y (jr _ hy)
  exact ⟨by rw [bV,a,a'];rfl,by rw [dX];omega,by rw [dY,c,c'];rfl⟩
theorem FF:∀{n:Nat}{x:PV},fV n x->Mi.plain x=true/\dep x<=n/\bz x x=true
 | n,_,.int _ i=>⟨rfl,by simp [dep],by simp [bz]⟩
 | n,_,.str _ z=>⟨rfl,by simp [dep],by simp [bz]⟩
 | n+1,_,.tup _ xs h=>by
  obtain ⟨a,b,c⟩:=FE (n:=n) λx hx=>FF (h x hx)
  exact ⟨by rw [Mi.plain];exact a,by rw [dep];omega,by rw [bz];exact c⟩
theorem FG {n:Nat}{x:PV}(h:fV n x) (hn:n<=100) (s:ao):yq x x s=.ok (.bl true) s:=by
 obtain ⟨a,b,c⟩:=FF h
 unfold yq
 rw [zu ⟨a,a,by omega⟩,c]
def jD {P:PV->Prop}:∀x∈([]:An),P x:=λ_ h=>nomatch h
def bq {P:PV->Prop}{a:PV}{xs:An}(h:P a) (h':∀x∈xs,P x):∀x∈a::xs,P x:=λx hx=>by
 rcases yE.mp hx with q|q
 ·rw [q];exact h
 ·exact h' x q
def xD (n:Nat) (z:Str):fV (n+1) (bh z):=.tup _ _ (bq (.str _ _) (bq (.str _ _) jD))
def VF (k:Nat):fV 3 (d9 k):=.tup _ _ (bq (.str _ _) (bq (.str _ _) (bq (.str _ _) (bq (.tup _ _ (bq (xD 0 _) (bq (.tup _ _ (bq (.str _ _) (bq (.int _ _) jD))) jD))) jD))))
def VG (l:Bool):fV 4 (cW l):=by
 cases l
 ·exact .tup _ _ (bq (.str _ _) (bq (xD 2 _) jD))
 ·exact .tup _ _ (bq (.str _ _) (bq (.str _ _) jD))
def FH:fV 5 (.tup [.str "x"]):=.tup _ _ (bq (.str _ _) jD)
def VH (l:Bool) (m:Nat):fV 7 (.tup (i_ l m)):=.tup _ _ λx hx=>by
 rcases m8.mp hx with q|q
 ·obtain ⟨j,_,rfl⟩:=wm.mp q
  exact .tup _ _ (bq (.str _ _) (bq FH (bq (.tup _ _ (bq (.tup _ _ (bq (VF _) jD)) (bq (.tup _ _ (bq (.str _ _) (bq (.str _ _) (bq (.tup _ _ (bq (xD 1 _) jD)) jD)))) jD))) jD)))
 ·have e:x=gA l m:=by simpa using q
  rw [e]
  exact .tup _ _ (bq (.str _ _) (bq FH (bq (.tup _ _ (bq (.tup _ _ jD) (bq (VG l) jD))) jD)))
def VI (w:Bool) (R:List Nat) (m:Nat):fV 4 (.tup (j_ w R m)):=.tup _ _ λx hx=>by
 obtain ⟨j,_,rfl⟩:=wm.mp hx
 exact .tup _ _ (bq (.str _ _) (bq (.int _ _) (bq (.tup _ _ (bq (.int _ _) (bq (.tup _ _ λy hy=>by obtain ⟨n,_,rfl⟩:=wm.mp hy;exact .int _ _) jD))) jD)))
theorem xE {j:Nat} (h:j<10 ^ 18) (st:ao):yo (.str "q") (.str (fM j)) st=.ok (.str (qN j)) st:=ad _ _ (by
 have l1:("q" : Str).length=1:=by decide +kernel
 have:=v9 h
 omega) st
noncomputable abbrev VJ:Aj:=(zA (zO 4 (zG (ze (As "let") (ze (As "y") (ze (As "add") (ze (zG (ze (zG (ze (As "of") (ze (As "x") zj))) (ze (zG (ze (As "is") (ze (zh wc (zd 0) (zd 3)) zj))) zj))) zj))))))
  (yX (y4 jh (zd 2) (zG (ze (zh yo (As "q") (zt wG (ze (zd 3) zj))) (ze (zG (ze (As "x") zj)) (ze (zG (ze (zG (ze (zd 4) zj)) (ze (zG (ze (As "go") (ze (zh yo (As "q") (zt wG (ze (zh yo (zd 3) (Ar 1)) zj))) (ze (zG (ze (zG (ze (As "of") (ze (As "y") zj))) zj)) zj)))) zj))) zj)))))))
theorem VL (l:Bool) {m:Nat}(hm:m<=1000) (st:ao):∃s1,vS [nV m,cW l] st=.ok (.tup (i_ l m)) s1:=by
 obtain ⟨e',s1,F,⟨z3,z4,he⟩,hs⟩:=T_ (gt:=gN 3) (body:=VJ) (fs:=(ze (zd 0) zj)) (e:=[some (nV m),some (cW l),At st.length,none,none]) (st:=st++[SO.lst []]) (λi e s=>(∃z3 z4,e=[some (nV m),some (cW l),At st.length,z3,z4])/\s[st.length]?=some (.lst ((List.range i).map (cD m)))) m hm (zU (zk rfl)) (λi e s hi ⟨⟨z3,z4,he⟩,hs⟩=>by
  subst he
  have sb:wc (nV m) (nV i) s=.ok (nV (m-i)) s:=(vm _ _).trans (by rw [show (m:Int)-(i:Int)=((m-i:Nat):Int) by omega])
  refine ⟨_,_,_,rfl,zP (ym (yl (pD rfl rfl rfl (yl (zY (yl (zY rfl rfl) (by simp)) (yl (zY rfl (zy (zk rfl) (zk rfl) sb)) (by simp))) (by simp))) (by simp))) (wY (iT (zk rfl) hs (yl (jW (zy rfl (zR (zU (zk rfl)) (rD (n:=i) (by omega) s)) (xE (by omega) s)) (yl (zU rfl) (by simp)) (yl (zY (yl (zU (zk rfl)) (by simp)) (yl (jW rfl (zy rfl (zR (zU (zy (zk rfl) rfl (pB i 1))) (rD (n:=i+1) (by omega) s)) (xE (by omega) s)) (yl (zU (yl (zY rfl rfl) (by simp))) (by simp))) (by simp))) (by simp))) (by simp)) (lA hs (by simp;omega)))),⟨_,_,rfl⟩,?_⟩
  rw [yM (yk hs),ke,lW]
  rfl) ⟨⟨none,none,rfl⟩,yC _ _⟩
 subst he
 have A:=lA (y:=gA l m) hs (by simp;omega)
 refine ⟨_,yw rfl (zP (ym (wJ jp (by simp))) (zP F (zP (wY (iT (zk rfl) hs (yl (jW (zy rfl (zR (zU (zk rfl)) (rD (n:=m) (by omega) s1)) (xE (by omega) s1)) (yl (zU rfl) (by simp)) (yl (zY (yl jp (by simp)) (zk rfl)) (by simp))) (by simp)) A)) (yv (zR (zU (zk rfl)) (by rw [wt,yK (yM (yk hs))]))))))⟩
noncomputable abbrev fN (ns:List Int):PV:=.frl (ns.map PV.int)
theorem rS (ns:List Int) (k:Nat) (st:ao):∃c,yY [fN ns,.int (k:Int)] st=.ok (.int c) st:=by
 have L:yr [fN ns] st=.ok (.int ns.length) st:=by rw [Nn,jZ]
 by_cases h:k<ns.length
 ·have a:c7 (ns.map PV.int) k=some (.int (ns[k]'h)):=bH (by rw [jY,yB h];rfl)
  have ix:zq (fN ns) (.int (k:Int)) st=.ok (.int (ns[k]'h)) st:=by
   show bP (c7 (ns.map PV.int) k) st=_
   rw [a];rfl
  exact ⟨_,yw rfl (wH (ji (yj (zy (zk rfl) (zR (zU (zk rfl)) L) (pA true (by simp;omega) _))) (yv (zy (zk rfl) (zk rfl) ix))))⟩
 ·exact ⟨0,yw rfl (zP (jj (yj (zy (zk rfl) (zR (zU (zk rfl)) L) (pA false (by simp;omega) _)))) (yv rfl))⟩
def FI (st:ao):mz (.int 10) (.int 18) st=.ok (.int 1000000000000000000) st:=by
 have cp:gT 10 18=true:=by decide
 have pw:((10:Int) ^ (18:Int).toNat)=1000000000000000000:=by decide
 show (if gT 10 18=true then Res.ok (PV.int (10 ^ (18:Int).toNat)) st else .stuck)=_
 rw [zu cp,pw]
def VM (x:Int) (st:ao):∃b,yI false (.int x) (.tup [.int 1,.int 2]) st=.ok (.bl b) st:=by
 refine ⟨Bool.xor false ([PV.int 1,PV.int 2].any λy=>bz y (.int x)),?_⟩
 have h:okIn (.int x) [.int 1,.int 2]:=⟨rfl,rfl,by simp [dX,dep]⟩
 simp only [yI]
 rw [zu h]
theorem lE {x:Int}{j:Nat}(hj:0<j) (st:ao):∃b:Nat,b<j/\yS (.int x) (.int (j:Int)) st=.ok (nV b) st:=by
 obtain ⟨b,hb,e⟩:=ro x j hj
 exact ⟨b,hb,(oX _ _ (by omega)).trans (by rw [e])⟩
noncomputable abbrev eM (ns:List Int) (a:Nat):zc:=[some (fN ns),some (nV a),none,none,none,none,none,none,none,none,none,none]
theorem VN (ns:List Int) (st:ao):∃m:Nat,m<10 ^ 18/\∀{X:Res Fl},vV (eM ns m) st=X->vW [some (fN ns),none,none,none,none,none,none,none,none,none,none,none] st=X:=by
 obtain ⟨c,C⟩:=rS ns 0 st
 have C:yY [fN ns,.int 0] st=.ok (.int c) st:=C
 have CE:∀a,(zt yY (ze (zd 0) (ze (Ar 0) zj))) (eM ns a) st=.ok (.int c) st:=λa=>zR (zY (zk rfl) rfl) C
 obtain ⟨a1,h1,M1⟩:=lE (x:=c) (j:=31) (by decide) st
 obtain ⟨a2,h2,M2⟩:=lE (x:=j4 c 372) (j:=200) (by decide) st
 obtain ⟨a3,h3,M3⟩:=lE (x:=j4 c 372) (j:=10 ^ 18) (by decide) st
 obtain ⟨b2,B2⟩:=VM (j3 (j4 c 31) 12) st
 have FJ:∀a,(zh yS (zh jK (zt yY (ze (zd 0) (ze (Ar 0) zj))) (Ar 31)) (Ar 12)) (eM ns a) st=.ok (.int (j3 (j4 c 31) 12)) st:=λa=>zy (zy (CE a) rfl (oY _ _ (by decide) (by decide))) rfl (oX _ _ (by decide))
 have S2:∀a,a<10 ^ 18->∃a',a'<10 ^ 18/\(zV (mB (zh (yI false) (zh yS (zh jK (zt yY (ze (zd 0) (ze (Ar 0) zj))) (Ar 31)) (Ar 12)) (zG (ze (Ar 1) (ze (Ar 2) zj))))) (zO 1 (zh yS (zh jK (zt yY (ze (zd 0) (ze (Ar 0) zj))) (Ar 372)) (Ar 200))) z0) (eM ns a) st=.ok (.nx (eM ns a')) st:=λa ha=>by
  have T:=yj (zy (FJ a) (yl (zY (fa:=Ar 2) (f:=Ar 1) rfl rfl) (by simp)) B2)
  cases b2
  ·exact ⟨a,ha,jj T⟩
  ·exact ⟨a2,by omega,ji T (ym (zy (zy (CE a) rfl (oY _ _ (by decide) (by decide))) rfl M2))⟩
 have S3:∀a,a<10 ^ 18->∃a',a'<10 ^ 18/\(zV (mB (zh yq (zh yS (zh jK (zt yY (ze (zd 0) (ze (Ar 0) zj))) (Ar 31)) (Ar 12)) (Ar 3))) (zO 1 (zh yS (zh jK (zt yY (ze (zd 0) (ze (Ar 0) zj))) (Ar 372)) (zh mz (Ar 10) (Ar 18)))) z0) (eM ns a) st=.ok (.nx (eM ns a')) st:=λa ha=>by
  have T:=λb h=>yj (zy (FJ a) (fb:=Ar 3) rfl (lR (i:=j3 (j4 c 31) 12) (j:=3) b h st))
  by_cases q:j3 (j4 c 31) 12=3
  ·exact ⟨a3,h3,ji (T true (by simp [q])) (ym (zy (zy (CE a) rfl (oY _ _ (by decide) (by decide))) (zy rfl rfl (FI _)) M3))⟩
  ·exact ⟨a,ha,jj (T false (by simp [q]))⟩
 obtain ⟨p,hp,E2⟩:=S2 a1 (by omega)
 obtain ⟨q,hq,E3⟩:=S3 p hp
 exact ⟨q,hq,λh=>zP (ym (zy (zR (zY (zk rfl) rfl) C) rfl M1)) (zP E2 (zP E3 h))⟩
theorem VO (ns:List Int) (j:Nat) (hj:j<4):∃is:List Int,is.length<=3/\di (ns.map PV.int) (some 4) (some (4+(j:Int)))=is.map PV.int:=by
 refine ⟨(ns.drop (HT.sIx ns.length 0 (some 4))).take (HT.sIx ns.length ns.length (some (4+(j:Int)))-HT.sIx ns.length 0 (some 4)),?_,?_⟩
 ·have:HT.sIx ns.length ns.length (some (4+(j:Int)))-HT.sIx ns.length 0 (some 4)<=3:=by
   have n4:¬(4+(j:Int)<0):=by omega
   simp [HT.sIx,n4]
   omega
  rw [List.length_take]
  omega
 ·simp [di,List.map_take,List.map_drop]
noncomputable def lF (i:Int):Nat:=(i%999999999999999999).toNat
theorem VP (i:Int):lF i<10 ^ 18:=by
 have:=Int.emod_lt_of_pos i (show (0:Int)<999999999999999999 by decide)
 have:=Int.emod_nonneg i (show (999999999999999999:Int)≠0 by decide)
 unfold lF
 omega
theorem VQ (i:Int) (st:ao):yS (.int i) (.int 999999999999999999) st=.ok (nV (lF i)) st:=by
 have:=Int.emod_nonneg i (show (999999999999999999:Int)≠0 by decide)
 rw [oX _ _ (by decide),Ez _ _ (by decide)]
 unfold lF
 congr 2
 omega
theorem VR (ns:List Int) (m:Nat) (st:ao):∃R A B,Rw R/\∀{X:Res Fl},vU [some (fN ns),some (nV m),some (bF R),none,none,none,none,none,none,none,none,none] (st++[.lst A]++[.lst B])=X->vV (eM ns m) st=X:=by
 obtain ⟨c,C⟩:=rS ns 1 st
 have C:yY [fN ns,.int 1] st=.ok (.int c) st:=C
 obtain ⟨j,hj,MJ⟩:=lE (x:=c) (j:=4) (by decide) st
 obtain ⟨is,h3,hc⟩:=VO ns j hj
 have SL:(iO (zd 0) (c_ (Ar 4)) (c_ (zh yo (Ar 4) (zh yS (zt yY (ze (zd 0) (ze (Ar 1) zj))) (Ar 4))))) (eM ns m) st=.ok (.ref st.length) (st++[.lst (is.map PV.int)]):=NA (zk rfl) (Dd rfl) (Dd (zy rfl (zy (zR (zY (zk rfl) rfl) C) rfl MJ) (vk _ _))) (by rw [LR,hc])
 have CP:=Ff (e:=eM ns m) (fe:=(zh yS (zd 0) (zh wc (zh mz (Ar 10) (Ar 18)) (Ar 1)))) (Y:=(is.map lF).map nV) SL (yC _ _) (by simp;omega) (by simp) (λi x y hx hy=>by
  rw [jY] at hx
  rw [jY,jY] at hy
  cases hi:is[i]? with
  | none=>rw [hi] at hx;cases hx
  | some n =>
   rw [hi] at hx hy
   cases hx;cases hy
   exact zy (zk rfl) (zy (zy rfl rfl (FI _)) rfl (vm _ _)) (VQ n _))
 exact ⟨is.map lF,is.map PV.int,(is.map lF).map nV,⟨by simpa using h3,λn hn=>by obtain ⟨i,_,rfl⟩:=wm.mp hn;exact VP i⟩,λh=>zP (ym (zR (zU CP) mZ)) h⟩
noncomputable def wI:Bool->Int
 | false=>0
 | true=>1
def VS {fv:Ai}{e e2:zc}{s s1 s2:ao}{i j:Nat}{cn:Str}{ks:Ad}{xs:An}{bt:Aj}(hv:fv e s=.err cn ks xs s1) (hk:ks≠[]) (hs:bt (e.set j (some (.exo cn ks xs))) s1=.ok (.nx e2) s2):wU i j cn fv bt e s=.ok (.nx (e2.set j none)) s2:=by
 unfold wU
 rw [hv]
 simp only
 rw [zu ⟨trivial,hk⟩,hs,jM,zL]
 rfl
def VT (x:Int) (st:ao):∃l,vy [.int x] st=.ok (cW l) st:=by
 by_cases q:j3 x 3=1
 ·exact ⟨true,yw rfl (wH (ji (yj (zy (zy (zk rfl) rfl (oX _ _ (by decide))) rfl (lR true (by simp [q]) _))) (yv (yl (zY rfl rfl) (by simp)))))⟩
 ·exact ⟨false,yw rfl (zP (jj (yj (zy (zy (zk rfl) rfl (oX _ _ (by decide))) rfl (lR false (by simp [q]) _)))) (yv (yl (zY rfl (yl (zY rfl rfl) (by simp))) (by simp))))⟩
def VU (w l:Bool) (st:ao):vA [.int (wI w),cW l] st=.ok (cB w l) st:=by cases w<;>cases l<;>kernel_rfl
def VV (w:Bool) (st:ao):zq (.ref st.length) (.int (wI w)) (st++[.lst [.int 4,.int 1]])=.ok (.int (a9 w)) (st++[.lst [.int 4,.int 1]]):=by
 show yp _ _ _=_
 rw [yK (yC _ _)]
 cases w<;>rfl
noncomputable abbrev e7 (ns:List Int) (m:Nat) (R:List Nat) (w l:Bool) (z5 z6 z7 z8 z9 VW VX:Option PV):zc:=[some (fN ns),some (nV m),some (bF R),some (.int (wI w)),some (cW l),z5,z6,z7,z8,z9,VW,VX]
theorem VY (ns:List Int) (m:Nat) (R:List Nat) (st:ao):∃w l L,1<=L/\L<=200/\∀{X:Res Fl},vT (e7 ns m R w l (some (nV L)) (some (cB w l)) (some (.int (a9 w))) (some .non) (some .non) none none) (st++[.lst [.int 4,.int 1]])=X->vU [some (fN ns),some (nV m),some (bF R),none,none,none,none,none,none,none,none,none] st=X:=by
 obtain ⟨c,C⟩:=rS ns 2 st
 have C:yY [fN ns,.int 2] st=.ok (.int c) st:=C
 obtain ⟨d,D⟩:=rS ns 3 st
 have D:yY [fN ns,.int 3] st=.ok (.int d) st:=D
 obtain ⟨a,ha,MA⟩:=lE (x:=c) (j:=2) (by decide) st
 obtain ⟨w,hw⟩:∃w,(a:Int)=wI w:=by
  rcases (by omega:a=0\/a=1) with q|q
  ·exact ⟨false,by rw [q];rfl⟩
  ·exact ⟨true,by rw [q];rfl⟩
 have MA:yS (.int c) (.int 2) st=.ok (.int (wI w)) st:=by rw [<-hw];exact MA
 obtain ⟨l,EL⟩:=VT (j4 c 2) st
 obtain ⟨b,hb,MB⟩:=lE (x:=d) (j:=3) (by decide) st
 obtain ⟨q,hq,MQ⟩:=lE (x:=j4 d 3) (j:=200) (by decide) st
 have VZ:∃L,1<=L/\L<=200/\(zV (mB (zh iL (zh yS (zt yY (ze (zd 0) (ze (Ar 3) zj))) (Ar 3)) (Ar 0))) (zO 5 (zh yo (Ar 1) (zh yS (zh jK (zt yY (ze (zd 0) (ze (Ar 3) zj))) (Ar 3)) (Ar 200)))) z0) (e7 ns m R w l (some (nV 200)) none none none none none none) st=.ok (.nx (e7 ns m R w l (some (nV L)) none none none none none none)) st:=by
  have T:∀b',decide ((0:Int)<(b:Int))=b'->(mB (zh iL (zh yS (zt yY (ze (zd 0) (ze (Ar 3) zj))) (Ar 3)) (Ar 0))) (e7 ns m R w l (some (nV 200)) none none none none none none) st=.ok b' st:=λb' h=>yj (zy (zy (zR (zY (zk rfl) rfl) D) rfl MB) rfl (vX b' h _))
  by_cases z:0<b
  ·exact ⟨1+q,by omega,by omega,ji (T true (by simp;omega)) (ym (zy rfl (zy (zy (zR (zY (zk rfl) rfl) D) rfl (oY _ _ (by decide) (by decide))) rfl MQ) (pB 1 q)))⟩
  ·exact ⟨200,by decide,by decide,jj (T false (by simp;omega))⟩
 obtain ⟨L,h1,h2,EQ⟩:=VZ
 refine ⟨w,l,L,h1,h2,λh=>zP (ym (zy (zR (zY (zk rfl) rfl) C) rfl MA)) (zP (ym (zR (zU (zy (zR (zY (zk rfl) rfl) C) rfl (oY _ _ (by decide) (by decide)))) EL)) (zP (ym rfl) (zP EQ (zP (ym (zR (zY (zk rfl) (zk rfl)) (VU w l st))) (zP (ym (zy (wJ (zY rfl rfl) (by simp)) (zk rfl) (VV w st))) (zP (ym rfl) (zP (ym rfl) h)))))))⟩
theorem zze (ns:List Int):∃st,Ey [.frl (ns.map .int)] []=.ok (.bl true) st:=by
 obtain ⟨m,hm,H1⟩:=VN ns []
 obtain ⟨R,A,B,hR,H2⟩:=VR ns m []
 obtain ⟨w,l,L,h1,h2,H3⟩:=VY ns m R ([]++[.lst A]++[.lst B])
 obtain ⟨s1,E1,K1,K2⟩:=VE w l A B hR hm h1 (by omega)
 have AR:(ze (zd 6) (ze (zt mU (ze (zd 6) (ze (zd 7) (ze (zG zj) zj)))) (ze (zG (ze (zd 1) (ze (zd 2) zj))) (ze (zd 5) zj)))) (e7 ns m R w l (some (nV L)) (some (cB w l)) (some (.int (a9 w))) (some .non) (some .non) none none) (pE A B)=.ok [cB w l,dF w,.tup [nV m,bF R],nV L] s1:=pD (zk rfl) (zR (jW (zk rfl) (zk rfl) (yl jp (by simp))) E1) (yl (zY (zk rfl) (zk rfl)) (by simp)) (zk rfl)
 have FK:∀{X:Res Fl},vT (e7 ns m R w l (some (nV L)) (some (cB w l)) (some (.int (a9 w))) (some .non) (some .non) none none) (pE A B)=X->vW [some (fN ns),none,none,none,none,none,none,none,none,none,none,none] []=X:=λh=>H1 (H2 (H3 h))
 by_cases hL:m+1<=L
 ·obtain ⟨s2,E2⟩:=K1 hL
  obtain ⟨ys,s3,C,hy,hs⟩:=T7 (fe:=(zG (ze (As "again") (ze (zd 8) (ze (zG (ze (zh wc (zd 2) (zd 0)) (ze (zd 3) zj))) zj))))) (fs:=(ze (zh yo (zd 1) (Ar 1)) zj)) (env:=e7 ns m R w l (some (nV L)) (some (cB w l)) (some (.int (a9 w))) (some (.tup [.tup (i_ l m),.tup (j_ w R m)])) (some .non) none none) (st:=s2) (m+1) (by omega) (zU (zy (zk rfl) rfl (pB m 1))) (λi ys s=>ys=(List.range i).map (λj=>a8 w R (m-j))/\s=s2) (λi ys s hi ⟨g1,g2⟩=>by
   have sb:wc (nV m) (nV i) s=.ok (nV (m-i)) s:=(vm _ _).trans (by rw [show (m:Int)-(i:Int)=((m-i:Nat):Int) by omega])
   exact ⟨_,s,yl (jW rfl (zk rfl) (yl (zY (zy (zk rfl) (zk rfl) sb) (zk rfl)) (by simp))) (by simp),by rw [g1,ke,lW];rfl,g2⟩) ⟨rfl,rfl⟩
  subst hy
  obtain ⟨s4,E4⟩:=VL l (m:=m) (by omega) (s3++[.lst (j_ w R m)])
  have FL:wD isT [.tup [.tup (i_ l m),.tup (j_ w R m)],.ty "tuple"] s2=.ok (.bl true) s2:=by kernel_rfl
  exact ⟨s4,yw rfl (FK (zP (rR (pK AR E2)) (zP (jj (yj (zy (zy (zk rfl) rfl (pB m 1)) (zk rfl) (vX false (by simp;omega) _)))) (zP (jj (C9 (yj (zy (zk rfl) rfl rfl)) (C9 (C_ (yj (zR (zY (zk rfl) rfl) FL))) (yj (zy (zR (zU (zk rfl)) (Nm _)) rfl (ND _ _)))))) (zP (ym (zR (zU C) mZ)) (yv (Dc (zy (zy (zk rfl) rfl yL) (zR (zY (zk rfl) (zk rfl)) E4) (FG (VH l m) (by decide) _)) (zy (zy (zk rfl) rfl yJ) (zk rfl) (FG (VI w R m) (by decide) _)))))))))⟩
 ·obtain ⟨s2,E2⟩:=K2 (by omega)
  have F:aM "limit" insOf excOf (.exo "TooMany" ["limit"] [nV L]) s2=.ok (nV L) s2:=by
   rw [L5,zu (by decide +kernel)]
   rfl
  exact ⟨s2,yw rfl (FK (zP (VS (pK AR E2) (by simp) (ym (zk rfl))) (wH (ji (yj (zy (zy (zk rfl) rfl (pB m 1)) (zk rfl) (vX true (by simp;omega) _))) (yv (Dc (zy (zk rfl) rfl rfl) (zy (yF (zk rfl) F) (zk rfl) (lR true (by simp) _))))))))⟩
end FK69
open PySem PySem.W PyProof.Rows
set_option maxHeartbeats 0
namespace PySem.W.Fast
def tw890059071446234944:=()
def tw18048063640686964160:=()
local macro_rules
|`(command|#print $s:str)=>do
 let c<-(s.getString.splitOn " ").toArray.flatMapM λw=>do
  let [p,a,b]:=w.splitOn "_"|Lean.Macro.throwUnsupported
  (Array.range (b.toNat!+1-a.toNat!)).mapM λk=>do
   let n:=Lean.mkIdent (.mkSimple s!"tw{((`hdT).str s!"{p}_{a.toNat!+k}").hash}")
   `(command|def $n := ())
 return Lean.mkNullNode c
#print "tree_47_47 tree_132_132 tree_180_180 tree_231_231 tree_272_272 tree_294_294 tree_316_316 tree_338_338 tree_395_395 tree_488_488 tree_511_511 tree_547_547 tree_607_607 tree_630_630 tree_666_666 tree_714_714 tree_744_744 tree_824_824 tree_887_887 o_43_46 o_49_547 o_550_887 heap_39_39 heap_46_46 heap_888_888 sts_49_49 sts_133_133 sts_181_181 sts_232_232 sts_273_273 sts_295_295 sts_317_317 sts_339_339 sts_396_396 sts_489_489 sts_512_512 sts_550_550 sts_608_608 sts_631_631 sts_667_667 sts_715_715 sts_745_745 sts_825_825 env_41_41 view_39_39"
end PySem.W.Fast
open_top hdT for PySem.Challenge.rw_foreknown_k69_many_keys
theorem PySem.Challenge.cw_foreknown_k69_many_keys_holds : PySem.Challenge.rw_foreknown_k69_many_keys.Holds :=
 hdT (by
 k_fill
 refine Mi.walkM (l:=PySem.Challenge.rw_foreknown_k69_many_keys) (k:=25) (x := "_law_script") rfl rfl ⟨rfl,by decide,by decide⟩ (λw h Y=>PySem.W.kIn_of Y) ?F
 case F =>
  intro w mg fa h KX G hmg
  have f__law_cell_at:Mi.FnF (L2.KOf KX) mg "_law_cell_at" FK69.ze5 ["_law_script", "_law_k"]:=by
   dsimp only [L2.KOf]
   refine' Mi.yc KX G ?a ?l ?c ?k ?b
   case a|l|c|k=>k_is
   (case b=>exact λ_ _ _ _ _ _ us hl=>match us,hl with|[_,_],_=>rfl)
  have f__law_end:Mi.FnF (L2.KOf KX) mg "_law_end" FK69.ze6 ["_law_cell"]:=by
   dsimp only [L2.KOf]
   refine' Mi.yc KX G ?a ?l ?c ?k ?b
   case a|l|c|k=>k_is
   (case b=>exact λ_ _ _ _ _ _ us hl=>match us,hl with|[_],_=>rfl)
  have f__law_turned:Mi.FnF (L2.KOf KX) mg "_law_turned" FK69.ze7 ["_law_three", "_law_way"]:=by
   dsimp only [L2.KOf]
   refine' Mi.yc KX G ?a ?l ?c ?k ?b
   case a|l|c|k=>k_is
   (case b=>exact λ_ _ _ _ _ _ us hl=>match us,hl with|[_,_],_=>rfl)
  have f__law_program:Mi.FnF (L2.KOf KX) mg "_law_program" FK69.ze8 ["_law_way", "_law_last"]:=by
   dsimp only [L2.KOf]
   refine' Mi.yc KX G ?a ?l ?c ?k ?b
   case a|l|c|k=>k_is
   (case b=>exact λ_ _ _ _ _ _ us hl=>match us,hl with|[_,_],_=>rfl)
  have f_functions_by_name:Mi.FnF (L2.KOf KX) mg "functions_by_name" FK69.ze9 ["program"]:=by
   dsimp only [L2.KOf]
   refine' Mi.yc KX G ?a ?l ?c ?k ?b
   case a|l|c|k=>k_is
   (case b=>exact λ_ _ _ _ _ _ us hl=>match us,hl with|[_],_=>rfl)
  have f_marked:Mi.FnF (L2.KOf KX) mg "marked" FK69.zfa ["names"]:=by
   dsimp only [L2.KOf]
   refine' Mi.yc KX G ?a ?l ?c ?k ?b
   case a|l|c|k=>k_is
   (case b=>exact λ_ _ _ _ _ _ us hl=>match us,hl with|[_],_=>rfl)
  have f_is_later_at:Mi.FnF (L2.KOf KX) mg "is_later_at" FK69.zfb ["bits", "place"]:=by
   dsimp only [L2.KOf]
   refine' Mi.yc KX G ?a ?l ?c ?k ?b
   case a|l|c|k=>k_is
   (case b=>exact λ_ _ _ _ _ _ us hl=>match us,hl with|[_,_],_=>rfl)
  have f_later_params:Mi.FnF (L2.KOf KX) mg "later_params" FK69.zc8 ["function", "bits"]:=by
   dsimp only [L2.KOf]
   refine' Mi.yc KX G ?a ?l ?c ?k ?b
   case a|l|c|k=>k_is
   (case b=>exact λ_ _ _ _ _ _ us hl=>match us,hl with|[_,_],_=>rfl)
  have f_lines_of:Mi.FnF (L2.KOf KX) mg "lines_of" FK69.zfc ["block"]:=by
   dsimp only [L2.KOf]
   refine' Mi.yc KX G ?a ?l ?c ?k ?b
   case a|l|c|k=>k_is
   (case b=>exact λ_ _ _ _ _ _ us hl=>match us,hl with|[_],_=>rfl)
  have f_bits_of:Mi.FnF (L2.KOf KX) mg "bits_of" FK69.zfd ["truths"]:=by
   dsimp only [L2.KOf]
   refine' Mi.yc KX G ?a ?l ?c ?k ?b
   case a|l|c|k=>k_is
   (case b=>exact λ_ _ _ _ _ _ us hl=>match us,hl with|[_],_=>rfl)
  have f_need:Mi.FnF (L2.KOf KX) mg "need" FK69.zc9 ["atoms", "later"]:=by
   dsimp only [L2.KOf]
   refine' Mi.yc KX G ?a ?l ?c ?k ?b
   case a|l|c|k=>k_is
   (case b=>exact λ_ _ _ _ _ _ us hl=>match us,hl with|[_,_],_=>rfl)
  have f_is_step:Mi.FnF (L2.KOf KX) mg "is_step" FK69.zfe ["line"]:=by
   dsimp only [L2.KOf]
   refine' Mi.yc KX G ?a ?l ?c ?k ?b
   case a|l|c|k=>k_is
   (case b=>exact λ_ _ _ _ _ _ us hl=>match us,hl with|[_],_=>rfl)
  have f_atoms_of:Mi.FnF (L2.KOf KX) mg "atoms_of" FK69.zff ["line"]:=by
   dsimp only [L2.KOf]
   refine' Mi.yc KX G ?a ?l ?c ?k ?b
   case a|l|c|k=>k_is
   (case b=>exact λ_ _ _ _ _ _ us hl=>match us,hl with|[_],_=>rfl)
  have f_broken_name:Mi.FnF (L2.KOf KX) mg "broken_name" FK69.zfg ["line", "later"]:=by
   dsimp only [L2.KOf]
   refine' Mi.yc KX G ?a ?l ?c ?k ?b
   case a|l|c|k=>k_is
   (case b=>exact λ_ _ _ _ _ _ us hl=>match us,hl with|[_,_],_=>rfl)
  have f_aim_of:Mi.FnF (L2.KOf KX) mg "aim_of" FK69.zfh ["line"]:=by
   dsimp only [L2.KOf]
   refine' Mi.yc KX G ?a ?l ?c ?k ?b
   case a|l|c|k=>k_is
   (case b=>exact λ_ _ _ _ _ _ us hl=>match us,hl with|[_],_=>rfl)
  have f_broken_aim:Mi.FnF (L2.KOf KX) mg "broken_aim" FK69.zfi ["aim", "goal", "later", "pairs"]:=by
   dsimp only [L2.KOf]
   refine' Mi.yc KX G ?a ?l ?c ?k ?b
   case a|l|c|k=>k_is
   (case b=>exact λ_ _ _ _ _ _ us hl=>match us,hl with|[_,_,_,_],_=>rfl)
  have f_broken_form:Mi.FnF (L2.KOf KX) mg "broken_form" FK69.zfj ["function", "form", "pairs"]:=by
   dsimp only [L2.KOf]
   refine' Mi.yc KX G ?a ?l ?c ?k ?b
   case a|l|c|k=>k_is
   (case b=>exact λ_ _ _ _ _ _ us hl=>match us,hl with|[_,_,_],_=>rfl)
  have f_broken:Mi.FnF (L2.KOf KX) mg "broken" FK69.zda ["program", "parting"]:=by
   dsimp only [L2.KOf]
   refine' Mi.yc KX G ?a ?l ?c ?k ?b
   case a|l|c|k=>k_is
   (case b=>exact λ_ _ _ _ _ _ us hl=>match us,hl with|[_,_],_=>rfl)
  have f_forms_by_pair:Mi.FnF (L2.KOf KX) mg "forms_by_pair" FK69.zfk ["parting"]:=by
   dsimp only [L2.KOf]
   refine' Mi.yc KX G ?a ?l ?c ?k ?b
   case a|l|c|k=>k_is
   (case b=>exact λ_ _ _ _ _ _ us hl=>match us,hl with|[_],_=>rfl)
  have n_KeyRing:Mi.NwF (L2.KOf KX) mg "KeyRing" "KeyRing.__init__" FK69.zfl ["self", "limit"]:=by
   dsimp only [L2.KOf]
   refine' Mi.zbi KX G ?aC ?mk ?kc ?a ?i ?l ?c ?k ?b
   case aC|mk|kc|a|i|l|c|k=>k_is
   (case b=>exact λ_ _ _ _ _ _ us hl=>match us,hl with|[_,_],_=>rfl)
  have f_kind_of:Mi.FnF (L2.KOf KX) mg "kind_of" FK69.zfm ["value"]:=by
   dsimp only [L2.KOf]
   refine' Mi.yc KX G ?a ?l ?c ?k ?b
   case a|l|c|k=>k_is
   (case b=>exact λ_ _ _ _ _ _ us hl=>match us,hl with|[_],_=>rfl)
  have f_show_value:Mi.FnF (L2.KOf KX) mg "show_value" FK69.zb7 ["value"]:=by
   dsimp only [L2.KOf]
   refine' Mi.yc KX G ?a ?l ?c ?k ?b
   case a|l|c|k=>k_is
   (case b=>exact λ_ _ _ _ _ _ us hl=>match us,hl with|[_],_=>rfl)
  have m_KeyRing_name_for:Mi.MtF (L2.KOf KX) mg "KeyRing" "name_for" "KeyRing.name_for" FK69.zfn ["self", "key"]:=by
   dsimp only [L2.KOf]
   refine' Mi.jv KX G ?aC ?pg ?hd ?po ?sa ?a ?i ?l ?c ?k ?b
   case aC|pg|hd|po|sa|a|i|l|c|k=>k_is
   (case b=>exact λ_ _ _ _ _ _ us hl=>match us,hl with|[_,_],_=>rfl)
  have f_known_params:Mi.FnF (L2.KOf KX) mg "known_params" FK69.zdb ["function", "bits"]:=by
   dsimp only [L2.KOf]
   refine' Mi.yc KX G ?a ?l ?c ?k ?b
   case a|l|c|k=>k_is
   (case b=>exact λ_ _ _ _ _ _ us hl=>match us,hl with|[_,_],_=>rfl)
  have n_Known:Mi.NwF (L2.KOf KX) mg "Known" "Known.__init__" FK69.zfo ["self", "value"]:=by
   dsimp only [L2.KOf]
   refine' Mi.zbi KX G ?aC ?mk ?kc ?a ?i ?l ?c ?k ?b
   case aC|mk|kc|a|i|l|c|k=>k_is
   (case b=>exact λ_ _ _ _ _ _ us hl=>match us,hl with|[_,_],_=>rfl)
  have n_Later:Mi.NwF (L2.KOf KX) mg "Later" "Later.__init__" FK69.zfp ["self", "name"]:=by
   dsimp only [L2.KOf]
   refine' Mi.zbi KX G ?aC ?mk ?kc ?a ?i ?l ?c ?k ?b
   case aC|mk|kc|a|i|l|c|k=>k_is
   (case b=>exact λ_ _ _ _ _ _ us hl=>match us,hl with|[_,_],_=>rfl)
  have n_Making:Mi.NwF (L2.KOf KX) mg "Making" "Making.__init__" FK69.zfq ["self", "ring", "function", "form", "values"]:=by
   dsimp only [L2.KOf]
   refine' Mi.zbi KX G ?aC ?mk ?kc ?a ?i ?l ?c ?k ?b
   case aC|mk|kc|a|i|l|c|k=>k_is
   (case b=>exact λ_ _ _ _ _ _ us hl=>match us,hl with|[_,_,_,_,_],_=>rfl)
  have f_thing_of:Mi.FnF (L2.KOf KX) mg "thing_of" FK69.zfr ["atom", "things"]:=by
   dsimp only [L2.KOf]
   refine' Mi.yc KX G ?a ?l ?c ?k ?b
   case a|l|c|k=>k_is
   (case b=>exact λ_ _ _ _ _ _ us hl=>match us,hl with|[_,_],_=>rfl)
  have m_Making_things_at:Mi.MtF (L2.KOf KX) mg "Making" "things_at" "Making.things_at" FK69.zdc ["self", "atoms"]:=by
   dsimp only [L2.KOf]
   refine' Mi.jv KX G ?aC ?pg ?hd ?po ?sa ?a ?i ?l ?c ?k ?b
   case aC|pg|hd|po|sa|a|i|l|c|k=>k_is
   (case b=>exact λ_ _ _ _ _ _ us hl=>match us,hl with|[_,_],_=>rfl)
  have m_Known_atom:Mi.MtF (L2.KOf KX) mg "Known" "atom" "Known.atom" FK69.zfs ["self"]:=by
   dsimp only [L2.KOf]
   refine' Mi.jv KX G ?aC ?pg ?hd ?po ?sa ?a ?i ?l ?c ?k ?b
   case aC|pg|hd|po|sa|a|i|l|c|k=>k_is
   (case b=>exact λ_ _ _ _ _ _ us hl=>match us,hl with|[_],_=>rfl)
  have m_Later_atom:Mi.MtF (L2.KOf KX) mg "Later" "atom" "Later.atom" FK69.zft ["self"]:=by
   dsimp only [L2.KOf]
   refine' Mi.jv KX G ?aC ?pg ?hd ?po ?sa ?a ?i ?l ?c ?k ?b
   case aC|pg|hd|po|sa|a|i|l|c|k=>k_is
   (case b=>exact λ_ _ _ _ _ _ us hl=>match us,hl with|[_],_=>rfl)
  have m_Making_left_aim:Mi.MtF (L2.KOf KX) mg "Making" "left_aim" "Making.left_aim" FK69.zfu ["self", "name", "atoms", "goal"]:=by
   dsimp only [L2.KOf]
   refine' Mi.jv KX G ?aC ?pg ?hd ?po ?sa ?a ?i ?l ?c ?k ?b
   case aC|pg|hd|po|sa|a|i|l|c|k=>k_is
   (case b=>exact λ_ _ _ _ _ _ us hl=>match us,hl with|[_,_,_,_],_=>rfl)
  have m_Making_left_call:Mi.MtF (L2.KOf KX) mg "Making" "left_call" "Making.left_call" FK69.zfv ["self", "step", "place"]:=by
   dsimp only [L2.KOf]
   refine' Mi.jv KX G ?aC ?pg ?hd ?po ?sa ?a ?i ?l ?c ?k ?b
   case aC|pg|hd|po|sa|a|i|l|c|k=>k_is
   (case b=>exact λ_ _ _ _ _ _ us hl=>match us,hl with|[_,_,_],_=>rfl)
  have m_Making_left_let:Mi.MtF (L2.KOf KX) mg "Making" "left_let" "Making.left_let" FK69.zdd ["self", "step"]:=by
   dsimp only [L2.KOf]
   refine' Mi.jv KX G ?aC ?pg ?hd ?po ?sa ?a ?i ?l ?c ?k ?b
   case aC|pg|hd|po|sa|a|i|l|c|k=>k_is
   (case b=>exact λ_ _ _ _ _ _ us hl=>match us,hl with|[_,_],_=>rfl)
  have f_check_kinds:Mi.FnF (L2.KOf KX) mg "check_kinds" FK69.zfw ["kinds", "values"]:=by
   dsimp only [L2.KOf]
   refine' Mi.yc KX G ?a ?l ?c ?k ?b
   case a|l|c|k=>k_is
   (case b=>exact λ_ _ _ _ _ _ us hl=>match us,hl with|[_,_],_=>rfl)
  have f_in_bounds:Mi.FnF (L2.KOf KX) mg "in_bounds" FK69.zfx ["number"]:=by
   dsimp only [L2.KOf]
   refine' Mi.yc KX G ?a ?l ?c ?k ?b
   case a|l|c|k=>k_is
   (case b=>exact λ_ _ _ _ _ _ us hl=>match us,hl with|[_],_=>rfl)
  have f_within_bounds:Mi.FnF (L2.KOf KX) mg "within_bounds" FK69.zfy ["number"]:=by
   dsimp only [L2.KOf]
   refine' Mi.yc KX G ?a ?l ?c ?k ?b
   case a|l|c|k=>k_is
   (case b=>exact λ_ _ _ _ _ _ us hl=>match us,hl with|[_],_=>rfl)
  have f_tell_add:Mi.FnF (L2.KOf KX) mg "tell_add" FK69.zfz ["values"]:=by
   dsimp only [L2.KOf]
   refine' Mi.yc KX G ?a ?l ?c ?k ?b
   case a|l|c|k=>k_is
   (case b=>exact λ_ _ _ _ _ _ us hl=>match us,hl with|[_],_=>rfl)
  have f_tell_sub:Mi.FnF (L2.KOf KX) mg "tell_sub" FK69.zfA ["values"]:=by
   dsimp only [L2.KOf]
   refine' Mi.yc KX G ?a ?l ?c ?k ?b
   case a|l|c|k=>k_is
   (case b=>exact λ_ _ _ _ _ _ us hl=>match us,hl with|[_],_=>rfl)
  have f_tell_mul:Mi.FnF (L2.KOf KX) mg "tell_mul" FK69.zfB ["values"]:=by
   dsimp only [L2.KOf]
   refine' Mi.yc KX G ?a ?l ?c ?k ?b
   case a|l|c|k=>k_is
   (case b=>exact λ_ _ _ _ _ _ us hl=>match us,hl with|[_],_=>rfl)
  have f_tell_div:Mi.FnF (L2.KOf KX) mg "tell_div" FK69.zfC ["values"]:=by
   dsimp only [L2.KOf]
   refine' Mi.yc KX G ?a ?l ?c ?k ?b
   case a|l|c|k=>k_is
   (case b=>exact λ_ _ _ _ _ _ us hl=>match us,hl with|[_],_=>rfl)
  have f_tell_rem:Mi.FnF (L2.KOf KX) mg "tell_rem" FK69.zfD ["values"]:=by
   dsimp only [L2.KOf]
   refine' Mi.yc KX G ?a ?l ?c ?k ?b
   case a|l|c|k=>k_is
   (case b=>exact λ_ _ _ _ _ _ us hl=>match us,hl with|[_],_=>rfl)
  have f_number_of:Mi.FnF (L2.KOf KX) mg "number_of" FK69.zfE ["truth"]:=by
   dsimp only [L2.KOf]
   refine' Mi.yc KX G ?a ?l ?c ?k ?b
   case a|l|c|k=>k_is
   (case b=>exact λ_ _ _ _ _ _ us hl=>match us,hl with|[_],_=>rfl)
  have f_tell_less:Mi.FnF (L2.KOf KX) mg "tell_less" FK69.zfF ["values"]:=by
   dsimp only [L2.KOf]
   refine' Mi.yc KX G ?a ?l ?c ?k ?b
   case a|l|c|k=>k_is
   (case b=>exact λ_ _ _ _ _ _ us hl=>match us,hl with|[_],_=>rfl)
  have f_tell_same:Mi.FnF (L2.KOf KX) mg "tell_same" FK69.zfG ["values"]:=by
   dsimp only [L2.KOf]
   refine' Mi.yc KX G ?a ?l ?c ?k ?b
   case a|l|c|k=>k_is
   (case b=>exact λ_ _ _ _ _ _ us hl=>match us,hl with|[_],_=>rfl)
  have f_tell_down:Mi.FnF (L2.KOf KX) mg "tell_down" FK69.zfH ["values"]:=by
   dsimp only [L2.KOf]
   refine' Mi.yc KX G ?a ?l ?c ?k ?b
   case a|l|c|k=>k_is
   (case b=>exact λ_ _ _ _ _ _ us hl=>match us,hl with|[_],_=>rfl)
  have f_tell_kind:Mi.FnF (L2.KOf KX) mg "tell_kind" FK69.zfI ["values"]:=by
   dsimp only [L2.KOf]
   refine' Mi.yc KX G ?a ?l ?c ?k ?b
   case a|l|c|k=>k_is
   (case b=>exact λ_ _ _ _ _ _ us hl=>match us,hl with|[_],_=>rfl)
  have f_tell_front:Mi.FnF (L2.KOf KX) mg "tell_front" FK69.zfJ ["values"]:=by
   dsimp only [L2.KOf]
   refine' Mi.yc KX G ?a ?l ?c ?k ?b
   case a|l|c|k=>k_is
   (case b=>exact λ_ _ _ _ _ _ us hl=>match us,hl with|[_],_=>rfl)
  have f_filled:Mi.FnF (L2.KOf KX) mg "filled" FK69.zfK ["row"]:=by
   dsimp only [L2.KOf]
   refine' Mi.yc KX G ?a ?l ?c ?k ?b
   case a|l|c|k=>k_is
   (case b=>exact λ_ _ _ _ _ _ us hl=>match us,hl with|[_],_=>rfl)
  have f_tell_head:Mi.FnF (L2.KOf KX) mg "tell_head" FK69.zfL ["values"]:=by
   dsimp only [L2.KOf]
   refine' Mi.yc KX G ?a ?l ?c ?k ?b
   case a|l|c|k=>k_is
   (case b=>exact λ_ _ _ _ _ _ us hl=>match us,hl with|[_],_=>rfl)
  have f_tell_rest:Mi.FnF (L2.KOf KX) mg "tell_rest" FK69.zfM ["values"]:=by
   dsimp only [L2.KOf]
   refine' Mi.yc KX G ?a ?l ?c ?k ?b
   case a|l|c|k=>k_is
   (case b=>exact λ_ _ _ _ _ _ us hl=>match us,hl with|[_],_=>rfl)
  have f_tell_many:Mi.FnF (L2.KOf KX) mg "tell_many" FK69.zfN ["values"]:=by
   dsimp only [L2.KOf]
   refine' Mi.yc KX G ?a ?l ?c ?k ?b
   case a|l|c|k=>k_is
   (case b=>exact λ_ _ _ _ _ _ us hl=>match us,hl with|[_],_=>rfl)
  have f_place_in:Mi.FnF (L2.KOf KX) mg "place_in" FK69.zfO ["row", "number"]:=by
   dsimp only [L2.KOf]
   refine' Mi.yc KX G ?a ?l ?c ?k ?b
   case a|l|c|k=>k_is
   (case b=>exact λ_ _ _ _ _ _ us hl=>match us,hl with|[_,_],_=>rfl)
  have f_tell_item:Mi.FnF (L2.KOf KX) mg "tell_item" FK69.zfP ["values"]:=by
   dsimp only [L2.KOf]
   refine' Mi.yc KX G ?a ?l ?c ?k ?b
   case a|l|c|k=>k_is
   (case b=>exact λ_ _ _ _ _ _ us hl=>match us,hl with|[_],_=>rfl)
  have f_tell_put:Mi.FnF (L2.KOf KX) mg "tell_put" FK69.zfQ ["values"]:=by
   dsimp only [L2.KOf]
   refine' Mi.yc KX G ?a ?l ?c ?k ?b
   case a|l|c|k=>k_is
   (case b=>exact λ_ _ _ _ _ _ us hl=>match us,hl with|[_],_=>rfl)
  have f_tell_field:Mi.FnF (L2.KOf KX) mg "tell_field" FK69.zfR ["values"]:=by
   dsimp only [L2.KOf]
   refine' Mi.yc KX G ?a ?l ?c ?k ?b
   case a|l|c|k=>k_is
   (case b=>exact λ_ _ _ _ _ _ us hl=>match us,hl with|[_],_=>rfl)
  have f_tell_set:Mi.FnF (L2.KOf KX) mg "tell_set" FK69.zfS ["values"]:=by
   dsimp only [L2.KOf]
   refine' Mi.yc KX G ?a ?l ?c ?k ?b
   case a|l|c|k=>k_is
   (case b=>exact λ_ _ _ _ _ _ us hl=>match us,hl with|[_],_=>rfl)
  have f_things_within:Mi.FnF (L2.KOf KX) mg "things_within" FK69.zfT ["thing"]:=by
   dsimp only [L2.KOf]
   refine' Mi.yc KX G ?a ?l ?c ?k ?b
   case a|l|c|k=>k_is
   (case b=>exact λ_ _ _ _ _ _ us hl=>match us,hl with|[_],_=>rfl)
  have f_all_within:Mi.FnF (L2.KOf KX) mg "all_within" FK69.zfU ["thing"]:=by
   dsimp only [L2.KOf]
   refine' Mi.yc KX G ?a ?l ?c ?k ?b
   case a|l|c|k=>k_is
   (case b=>exact λ_ _ _ _ _ _ us hl=>match us,hl with|[_],_=>rfl)
  have f_parts:Mi.FnF (L2.KOf KX) mg "parts" FK69.zfV ["value"]:=by
   dsimp only [L2.KOf]
   refine' Mi.yc KX G ?a ?l ?c ?k ?b
   case a|l|c|k=>k_is
   (case b=>exact λ_ _ _ _ _ _ us hl=>match us,hl with|[_],_=>rfl)
  have m_Op_answer:Mi.MtF (L2.KOf KX) mg "Op" "answer" "Op.answer" FK69.zfW ["self", "values"]:=by
   dsimp only [L2.KOf]
   refine' Mi.jv KX G ?aC ?pg ?hd ?po ?sa ?a ?i ?l ?c ?k ?b
   case aC|pg|hd|po|sa|a|i|l|c|k=>k_is
   (case b=>exact λ_ _ _ _ _ _ us hl=>match us,hl with|[_,_],_=>rfl)
  have n_Op:Mi.NwF (L2.KOf KX) mg "Op" "Op.__init__" FK69.zfX ["self", "word"]:=by
   dsimp only [L2.KOf]
   refine' Mi.zbi KX G ?aC ?mk ?kc ?a ?i ?l ?c ?k ?b
   case aC|mk|kc|a|i|l|c|k=>k_is
   (case b=>exact λ_ _ _ _ _ _ us hl=>match us,hl with|[_,_],_=>rfl)
  have f_op_of:Mi.FnF (L2.KOf KX) mg "op_of" FK69.zfY ["word"]:=by
   dsimp only [L2.KOf]
   refine' Mi.yc KX G ?a ?l ?c ?k ?b
   case a|l|c|k=>k_is
   (case b=>exact λ_ _ _ _ _ _ us hl=>match us,hl with|[_],_=>rfl)
  have m_Making_answer_ahead:Mi.MtF (L2.KOf KX) mg "Making" "answer_ahead" "Making.answer_ahead" FK69.zde ["self", "step"]:=by
   dsimp only [L2.KOf]
   refine' Mi.jv KX G ?aC ?pg ?hd ?po ?sa ?a ?i ?l ?c ?k ?b
   case aC|pg|hd|po|sa|a|i|l|c|k=>k_is
   (case b=>exact λ_ _ _ _ _ _ us hl=>match us,hl with|[_,_],_=>rfl)
  have m_Making_left_go:Mi.MtF (L2.KOf KX) mg "Making" "left_go" "Making.left_go" FK69.zfZ ["self", "end", "place"]:=by
   dsimp only [L2.KOf]
   refine' Mi.jv KX G ?aC ?pg ?hd ?po ?sa ?a ?i ?l ?c ?k ?b
   case aC|pg|hd|po|sa|a|i|l|c|k=>k_is
   (case b=>exact λ_ _ _ _ _ _ us hl=>match us,hl with|[_,_,_],_=>rfl)
  have m_Known_ahead:Mi.MtF (L2.KOf KX) mg "Known" "ahead" "Known.ahead" FK69.zf0 ["self"]:=by
   dsimp only [L2.KOf]
   refine' Mi.jv KX G ?aC ?pg ?hd ?po ?sa ?a ?i ?l ?c ?k ?b
   case aC|pg|hd|po|sa|a|i|l|c|k=>k_is
   (case b=>exact λ_ _ _ _ _ _ us hl=>match us,hl with|[_],_=>rfl)
  have m_Later_ahead:Mi.MtF (L2.KOf KX) mg "Later" "ahead" "Later.ahead" FK69.zf1 ["self"]:=by
   dsimp only [L2.KOf]
   refine' Mi.jv KX G ?aC ?pg ?hd ?po ?sa ?a ?i ?l ?c ?k ?b
   case aC|pg|hd|po|sa|a|i|l|c|k=>k_is
   (case b=>exact λ_ _ _ _ _ _ us hl=>match us,hl with|[_],_=>rfl)
  have f_chooses_first:Mi.FnF (L2.KOf KX) mg "chooses_first" FK69.zf2 ["value"]:=by
   dsimp only [L2.KOf]
   refine' Mi.yc KX G ?a ?l ?c ?k ?b
   case a|l|c|k=>k_is
   (case b=>exact λ_ _ _ _ _ _ us hl=>match us,hl with|[_],_=>rfl)
  have f_aims_of:Mi.FnF (L2.KOf KX) mg "aims_of" FK69.zb8 ["block"]:=by
   dsimp only [L2.KOf]
   refine' Mi.yc KX G ?a ?l ?c ?k ?b
   case a|l|c|k=>k_is
   (case b=>exact λ_ _ _ _ _ _ us hl=>match us,hl with|[_],_=>rfl)
  have m_Making_decided:Mi.MtF (L2.KOf KX) mg "Making" "decided" "Making.decided" FK69.zf3 ["self", "end", "value", "place"]:=by
   dsimp only [L2.KOf]
   refine' Mi.jv KX G ?aC ?pg ?hd ?po ?sa ?a ?i ?l ?c ?k ?b
   case aC|pg|hd|po|sa|a|i|l|c|k=>k_is
   (case b=>exact λ_ _ _ _ _ _ us hl=>match us,hl with|[_,_,_,_],_=>rfl)
  have m_Making_made_end:Mi.MtF (L2.KOf KX) mg "Making" "made_end" "Making.made_end" FK69.zf4 ["self", "end", "place"]:=by
   dsimp only [L2.KOf]
   refine' Mi.jv KX G ?aC ?pg ?hd ?po ?sa ?a ?i ?l ?c ?k ?b
   case aC|pg|hd|po|sa|a|i|l|c|k=>k_is
   (case b=>exact λ_ _ _ _ _ _ us hl=>match us,hl with|[_,_,_],_=>rfl)
  have m_Making_made_block:Mi.MtF (L2.KOf KX) mg "Making" "made_block" "Making.made_block" FK69.zf5 ["self", "block", "place"]:=by
   dsimp only [L2.KOf]
   refine' Mi.jv KX G ?aC ?pg ?hd ?po ?sa ?a ?i ?l ?c ?k ?b
   case aC|pg|hd|po|sa|a|i|l|c|k=>k_is
   (case b=>exact λ_ _ _ _ _ _ us hl=>match us,hl with|[_,_,_],_=>rfl)
  have f_made_function:Mi.FnF (L2.KOf KX) mg "made_function" FK69.zf6 ["ring", "key", "function", "form"]:=by
   dsimp only [L2.KOf]
   refine' Mi.yc KX G ?a ?l ?c ?k ?b
   case a|l|c|k=>k_is
   (case b=>exact λ_ _ _ _ _ _ us hl=>match us,hl with|[_,_,_,_],_=>rfl)
  have f_make:Mi.FnF (L2.KOf KX) mg "make" FK69.zf7 ["program", "parting", "known", "limit"]:=by
   dsimp only [L2.KOf]
   refine' Mi.yc KX G ?a ?l ?c ?k ?b
   case a|l|c|k=>k_is
   (case b=>exact λ_ _ _ _ _ _ us hl=>match us,hl with|[_,_,_,_],_=>rfl)
  have f_held_bits:Mi.FnF (L2.KOf KX) mg "held_bits" FK69.zdf ["function", "held"]:=by
   dsimp only [L2.KOf]
   refine' Mi.yc KX G ?a ?l ?c ?k ?b
   case a|l|c|k=>k_is
   (case b=>exact λ_ _ _ _ _ _ us hl=>match us,hl with|[_,_],_=>rfl)
  have n_Holding:Mi.NwF (L2.KOf KX) mg "Holding" "Holding.__init__" FK69.zf8 ["self", "program", "held"]:=by
   dsimp only [L2.KOf]
   refine' Mi.zbi KX G ?aC ?mk ?kc ?a ?i ?l ?c ?k ?b
   case aC|mk|kc|a|i|l|c|k=>k_is
   (case b=>exact λ_ _ _ _ _ _ us hl=>match us,hl with|[_,_,_],_=>rfl)
  have m_Holding_goal_of:Mi.MtF (L2.KOf KX) mg "Holding" "goal_of" "Holding.goal_of" FK69.zf9 ["self", "aim", "later"]:=by
   dsimp only [L2.KOf]
   refine' Mi.jv KX G ?aC ?pg ?hd ?po ?sa ?a ?i ?l ?c ?k ?b
   case aC|pg|hd|po|sa|a|i|l|c|k=>k_is
   (case b=>exact λ_ _ _ _ _ _ us hl=>match us,hl with|[_,_,_],_=>rfl)
  have m_Holding_makes_later:Mi.MtF (L2.KOf KX) mg "Holding" "makes_later" "Holding.makes_later" FK69.zga ["self", "name", "step", "later"]:=by
   dsimp only [L2.KOf]
   refine' Mi.jv KX G ?aC ?pg ?hd ?po ?sa ?a ?i ?l ?c ?k ?b
   case aC|pg|hd|po|sa|a|i|l|c|k=>k_is
   (case b=>exact λ_ _ _ _ _ _ us hl=>match us,hl with|[_,_,_,_],_=>rfl)
  have m_Holding_best_form:Mi.MtF (L2.KOf KX) mg "Holding" "best_form" "Holding.best_form" FK69.zgb ["self", "function", "bits"]:=by
   dsimp only [L2.KOf]
   refine' Mi.jv KX G ?aC ?pg ?hd ?po ?sa ?a ?i ?l ?c ?k ?b
   case aC|pg|hd|po|sa|a|i|l|c|k=>k_is
   (case b=>exact λ_ _ _ _ _ _ us hl=>match us,hl with|[_,_,_],_=>rfl)
  have f_aimed_pairs:Mi.FnF (L2.KOf KX) mg "aimed_pairs" FK69.zdg ["function", "goals"]:=by
   dsimp only [L2.KOf]
   refine' Mi.yc KX G ?a ?l ?c ?k ?b
   case a|l|c|k=>k_is
   (case b=>exact λ_ _ _ _ _ _ us hl=>match us,hl with|[_,_],_=>rfl)
  have f_best:Mi.FnF (L2.KOf KX) mg "best" FK69.zgc ["program", "bits", "held"]:=by
   dsimp only [L2.KOf]
   refine' Mi.yc KX G ?a ?l ?c ?k ?b
   case a|l|c|k=>k_is
   (case b=>exact λ_ _ _ _ _ _ us hl=>match us,hl with|[_,_,_],_=>rfl)
  have f__law_made:Mi.FnF (L2.KOf KX) mg "_law_made" FK69.zgd ["_law_many", "_law_last"]:=by
   dsimp only [L2.KOf]
   refine' Mi.yc KX G ?a ?l ?c ?k ?b
   case a|l|c|k=>k_is
   (case b=>exact λ_ _ _ _ _ _ us hl=>match us,hl with|[_,_],_=>rfl)
  have f_law:Mi.FnF (L2.KOf KX) mg "law" FK69.zbs ["_law_script"]:=by
   dsimp only [L2.KOf]
   refine' Mi.yc KX G ?a ?l ?c ?k ?b
   case a|l|c|k=>k_is
   (case b=>exact λ_ _ _ _ _ _ us hl=>match us,hl with|[_],_=>rfl)
  have x_Fault:Mi.XnF (L2.KOf KX) mg "Fault" "word" "Fault.__init__" FK69.zge:=by
   dsimp only [L2.KOf]
   refine' Mi.zcW KX G ?aC ?hC ?hB ?hN ?he ?hi ?fn ?kp ?sa ?hcl ?hl ?no ?hd ?l ?c ?k ?b
   case aC|hC=>k_is
   (case hB=>k_exc)
   (case hN=>k_is)
   (case he=>first|rfl|with_unfolding_all rfl|simp)
   (case hi=>k_is)
   (case fn=>k_is)
   (case kp=>k_is)
   (case sa=>k_is)
   (case hcl=>k_is)
   (case hl=>rfl)
   (case no=>k_is)
   (case hd=>k_is)
   (case l=>k_is)
   (case c=>k_is)
   (case k=>k_is)
   (case b=>exact λ_ _ _ _ _ _ us hl=>match us,hl with|[_,_],_=>rfl)
  have x_NoOp:Mi.XnF (L2.KOf KX) mg "NoOp" "word" "NoOp.__init__" FK69.zgf:=by
   dsimp only [L2.KOf]
   refine' Mi.zcW KX G ?aC ?hC ?hB ?hN ?he ?hi ?fn ?kp ?sa ?hcl ?hl ?no ?hd ?l ?c ?k ?b
   case aC|hC=>k_is
   (case hB=>k_exc)
   (case hN=>k_is)
   (case he=>first|rfl|with_unfolding_all rfl|simp)
   (case hi=>k_is)
   (case fn=>k_is)
   (case kp=>k_is)
   (case sa=>k_is)
   (case hcl=>k_is)
   (case hl=>rfl)
   (case no=>k_is)
   (case hd=>k_is)
   (case l=>k_is)
   (case c=>k_is)
   (case k=>k_is)
   (case b=>exact λ_ _ _ _ _ _ us hl=>match us,hl with|[_,_],_=>rfl)
  have x_NotLetBy:Mi.XnF (L2.KOf KX) mg "NotLetBy" "row" "NotLetBy.__init__" FK69.zgg:=by
   dsimp only [L2.KOf]
   refine' Mi.zcW KX G ?aC ?hC ?hB ?hN ?he ?hi ?fn ?kp ?sa ?hcl ?hl ?no ?hd ?l ?c ?k ?b
   case aC|hC=>k_is
   (case hB=>k_exc)
   (case hN=>k_is)
   (case he=>first|rfl|with_unfolding_all rfl|simp)
   (case hi=>k_is)
   (case fn=>k_is)
   (case kp=>k_is)
   (case sa=>k_is)
   (case hcl=>k_is)
   (case hl=>rfl)
   (case no=>k_is)
   (case hd=>k_is)
   (case l=>k_is)
   (case c=>k_is)
   (case k=>k_is)
   (case b=>exact λ_ _ _ _ _ _ us hl=>match us,hl with|[_,_],_=>rfl)
  have x_TooMany:Mi.XnF (L2.KOf KX) mg "TooMany" "limit" "TooMany.__init__" FK69.zgh:=by
   dsimp only [L2.KOf]
   refine' Mi.zcW KX G ?aC ?hC ?hB ?hN ?he ?hi ?fn ?kp ?sa ?hcl ?hl ?no ?hd ?l ?c ?k ?b
   case aC|hC=>k_is
   (case hB=>k_exc)
   (case hN=>k_is)
   (case he=>first|rfl|with_unfolding_all rfl|simp)
   (case hi=>k_is)
   (case fn=>k_is)
   (case kp=>k_is)
   (case sa=>k_is)
   (case hcl=>k_is)
   (case hl=>rfl)
   (case no=>k_is)
   (case hd=>k_is)
   (case l=>k_is)
   (case c=>k_is)
   (case k=>k_is)
   (case b=>exact λ_ _ _ _ _ _ us hl=>match us,hl with|[_,_],_=>rfl)
  have b_dict:mg "dict" = none:=by
   refine' Mi.wF KX G ?a
   (case a=>k_is)
  have b_enumerate:mg "enumerate" = none:=by
   refine' Mi.wF KX G ?a
   (case a=>k_is)
  have b_isinstance:mg "isinstance" = none:=by
   refine' Mi.wF KX G ?a
   (case a=>k_is)
  have b_len:mg "len" = none:=by
   refine' Mi.wF KX G ?a
   (case a=>k_is)
  have b_list:mg "list" = none:=by
   refine' Mi.wF KX G ?a
   (case a=>k_is)
  have b_range:mg "range" = none:=by
   refine' Mi.wF KX G ?a
   (case a=>k_is)
  have b_sorted:mg "sorted" = none:=by
   refine' Mi.wF KX G ?a
   (case a=>k_is)
  have b_str:mg "str" = none:=by
   refine' Mi.wF KX G ?a
   (case a=>k_is)
  have b_tuple:mg "tuple" = none:=by
   refine' Mi.wF KX G ?a
   (case a=>k_is)
  have b_zip:mg "zip" = none:=by
   refine' Mi.wF KX G ?a
   (case a=>k_is)
  have c_MOST_PARTS:∃t,mg "MOST_PARTS" = some (.int 60 t):=by
   refine' Mi.ziS KX G ?a
   (case a=>k_is)
  have c_NUMBER_BOUND:∃t,mg "NUMBER_BOUND" = some (.int 1000000000000000000 t):=by
   refine' Mi.ziS KX G ?a
   (case a=>k_is)
  have d_bits_by_name:Mi.FldF (L2.KOf KX) mg "bits_by_name" FK69.insOf FK69.excOf:=by
   refine ⟨λc hc=>?_,λc hc=>?_⟩
   ·simp [FK69.insOf,or_assoc] at hc
    rcases hc with rfl|rfl|rfl|rfl|rfl|rfl
    ·dsimp only [L2.KOf]
     refine' Mi.zS KX G ?aC ?pg ?hd ?po ?sa ?na
     case aC|pg|hd|po|sa|na=>k_is
    ·dsimp only [L2.KOf]
     refine' Mi.zS KX G ?aC ?pg ?hd ?po ?sa ?na
     case aC|pg|hd|po|sa|na=>k_is
    ·dsimp only [L2.KOf]
     refine' Mi.zS KX G ?aC ?pg ?hd ?po ?sa ?na
     case aC|pg|hd|po|sa|na=>k_is
    ·dsimp only [L2.KOf]
     refine' Mi.zS KX G ?aC ?pg ?hd ?po ?sa ?na
     case aC|pg|hd|po|sa|na=>k_is
    ·dsimp only [L2.KOf]
     refine' Mi.zS KX G ?aC ?pg ?hd ?po ?sa ?na
     case aC|pg|hd|po|sa|na=>k_is
    ·dsimp only [L2.KOf]
     refine' Mi.zS KX G ?aC ?pg ?hd ?po ?sa ?na
     case aC|pg|hd|po|sa|na=>k_is
   ·simp [FK69.excOf,or_assoc] at hc
    rcases hc with rfl|rfl|rfl|rfl
    ·dsimp only [L2.KOf]
     refine' Mi.yi KX G ?aC ?ga ?hk ?hB ?hd ?no
     case aC|ga|hk|hB|hd|no=>k_is
    ·dsimp only [L2.KOf]
     refine' Mi.yi KX G ?aC ?ga ?hk ?hB ?hd ?no
     case aC|ga|hk|hB|hd|no=>k_is
    ·dsimp only [L2.KOf]
     refine' Mi.yi KX G ?aC ?ga ?hk ?hB ?hd ?no
     case aC|ga|hk|hB|hd|no=>k_is
    ·dsimp only [L2.KOf]
     refine' Mi.yi KX G ?aC ?ga ?hk ?hB ?hd ?no
     case aC|ga|hk|hB|hd|no=>k_is
  have d_goals:Mi.FldF (L2.KOf KX) mg "goals" FK69.insOf FK69.excOf:=by
   refine ⟨λc hc=>?_,λc hc=>?_⟩
   ·simp [FK69.insOf,or_assoc] at hc
    rcases hc with rfl|rfl|rfl|rfl|rfl|rfl
    ·dsimp only [L2.KOf]
     refine' Mi.zS KX G ?aC ?pg ?hd ?po ?sa ?na
     case aC|pg|hd|po|sa|na=>k_is
    ·dsimp only [L2.KOf]
     refine' Mi.zS KX G ?aC ?pg ?hd ?po ?sa ?na
     case aC|pg|hd|po|sa|na=>k_is
    ·dsimp only [L2.KOf]
     refine' Mi.zS KX G ?aC ?pg ?hd ?po ?sa ?na
     case aC|pg|hd|po|sa|na=>k_is
    ·dsimp only [L2.KOf]
     refine' Mi.zS KX G ?aC ?pg ?hd ?po ?sa ?na
     case aC|pg|hd|po|sa|na=>k_is
    ·dsimp only [L2.KOf]
     refine' Mi.zS KX G ?aC ?pg ?hd ?po ?sa ?na
     case aC|pg|hd|po|sa|na=>k_is
    ·dsimp only [L2.KOf]
     refine' Mi.zS KX G ?aC ?pg ?hd ?po ?sa ?na
     case aC|pg|hd|po|sa|na=>k_is
   ·simp [FK69.excOf,or_assoc] at hc
    rcases hc with rfl|rfl|rfl|rfl
    ·dsimp only [L2.KOf]
     refine' Mi.yi KX G ?aC ?ga ?hk ?hB ?hd ?no
     case aC|ga|hk|hB|hd|no=>k_is
    ·dsimp only [L2.KOf]
     refine' Mi.yi KX G ?aC ?ga ?hk ?hB ?hd ?no
     case aC|ga|hk|hB|hd|no=>k_is
    ·dsimp only [L2.KOf]
     refine' Mi.yi KX G ?aC ?ga ?hk ?hB ?hd ?no
     case aC|ga|hk|hB|hd|no=>k_is
    ·dsimp only [L2.KOf]
     refine' Mi.yi KX G ?aC ?ga ?hk ?hB ?hd ?no
     case aC|ga|hk|hB|hd|no=>k_is
  have d_later:Mi.FldF (L2.KOf KX) mg "later" FK69.insOf FK69.excOf:=by
   refine ⟨λc hc=>?_,λc hc=>?_⟩
   ·simp [FK69.insOf,or_assoc] at hc
    rcases hc with rfl|rfl|rfl|rfl|rfl|rfl
    ·dsimp only [L2.KOf]
     refine' Mi.zS KX G ?aC ?pg ?hd ?po ?sa ?na
     case aC|pg|hd|po|sa|na=>k_is
    ·dsimp only [L2.KOf]
     refine' Mi.zS KX G ?aC ?pg ?hd ?po ?sa ?na
     case aC|pg|hd|po|sa|na=>k_is
    ·dsimp only [L2.KOf]
     refine' Mi.zS KX G ?aC ?pg ?hd ?po ?sa ?na
     case aC|pg|hd|po|sa|na=>k_is
    ·dsimp only [L2.KOf]
     refine' Mi.zS KX G ?aC ?pg ?hd ?po ?sa ?na
     case aC|pg|hd|po|sa|na=>k_is
    ·dsimp only [L2.KOf]
     refine' Mi.zS KX G ?aC ?pg ?hd ?po ?sa ?na
     case aC|pg|hd|po|sa|na=>k_is
    ·dsimp only [L2.KOf]
     refine' Mi.zS KX G ?aC ?pg ?hd ?po ?sa ?na
     case aC|pg|hd|po|sa|na=>k_is
   ·simp [FK69.excOf,or_assoc] at hc
    rcases hc with rfl|rfl|rfl|rfl
    ·dsimp only [L2.KOf]
     refine' Mi.yi KX G ?aC ?ga ?hk ?hB ?hd ?no
     case aC|ga|hk|hB|hd|no=>k_is
    ·dsimp only [L2.KOf]
     refine' Mi.yi KX G ?aC ?ga ?hk ?hB ?hd ?no
     case aC|ga|hk|hB|hd|no=>k_is
    ·dsimp only [L2.KOf]
     refine' Mi.yi KX G ?aC ?ga ?hk ?hB ?hd ?no
     case aC|ga|hk|hB|hd|no=>k_is
    ·dsimp only [L2.KOf]
     refine' Mi.yi KX G ?aC ?ga ?hk ?hB ?hd ?no
     case aC|ga|hk|hB|hd|no=>k_is
  have d_limit:Mi.FldF (L2.KOf KX) mg "limit" FK69.insOf FK69.excOf:=by
   refine ⟨λc hc=>?_,λc hc=>?_⟩
   ·simp [FK69.insOf,or_assoc] at hc
    rcases hc with rfl|rfl|rfl|rfl|rfl|rfl
    ·dsimp only [L2.KOf]
     refine' Mi.zS KX G ?aC ?pg ?hd ?po ?sa ?na
     case aC|pg|hd|po|sa|na=>k_is
    ·dsimp only [L2.KOf]
     refine' Mi.zS KX G ?aC ?pg ?hd ?po ?sa ?na
     case aC|pg|hd|po|sa|na=>k_is
    ·dsimp only [L2.KOf]
     refine' Mi.zS KX G ?aC ?pg ?hd ?po ?sa ?na
     case aC|pg|hd|po|sa|na=>k_is
    ·dsimp only [L2.KOf]
     refine' Mi.zS KX G ?aC ?pg ?hd ?po ?sa ?na
     case aC|pg|hd|po|sa|na=>k_is
    ·dsimp only [L2.KOf]
     refine' Mi.zS KX G ?aC ?pg ?hd ?po ?sa ?na
     case aC|pg|hd|po|sa|na=>k_is
    ·dsimp only [L2.KOf]
     refine' Mi.zS KX G ?aC ?pg ?hd ?po ?sa ?na
     case aC|pg|hd|po|sa|na=>k_is
   ·simp [FK69.excOf,or_assoc] at hc
    rcases hc with rfl|rfl|rfl|rfl
    ·dsimp only [L2.KOf]
     refine' Mi.yi KX G ?aC ?ga ?hk ?hB ?hd ?no
     case aC|ga|hk|hB|hd|no=>k_is
    ·dsimp only [L2.KOf]
     refine' Mi.yi KX G ?aC ?ga ?hk ?hB ?hd ?no
     case aC|ga|hk|hB|hd|no=>k_is
    ·dsimp only [L2.KOf]
     refine' Mi.yi KX G ?aC ?ga ?hk ?hB ?hd ?no
     case aC|ga|hk|hB|hd|no=>k_is
    ·dsimp only [L2.KOf]
     refine' Mi.yi KX G ?aC ?ga ?hk ?hB ?hd ?no
     case aC|ga|hk|hB|hd|no=>k_is
  have d_many:Mi.FldF (L2.KOf KX) mg "many" FK69.insOf FK69.excOf:=by
   refine ⟨λc hc=>?_,λc hc=>?_⟩
   ·simp [FK69.insOf,or_assoc] at hc
    rcases hc with rfl|rfl|rfl|rfl|rfl|rfl
    ·dsimp only [L2.KOf]
     refine' Mi.zS KX G ?aC ?pg ?hd ?po ?sa ?na
     case aC|pg|hd|po|sa|na=>k_is
    ·dsimp only [L2.KOf]
     refine' Mi.zS KX G ?aC ?pg ?hd ?po ?sa ?na
     case aC|pg|hd|po|sa|na=>k_is
    ·dsimp only [L2.KOf]
     refine' Mi.zS KX G ?aC ?pg ?hd ?po ?sa ?na
     case aC|pg|hd|po|sa|na=>k_is
    ·dsimp only [L2.KOf]
     refine' Mi.zS KX G ?aC ?pg ?hd ?po ?sa ?na
     case aC|pg|hd|po|sa|na=>k_is
    ·dsimp only [L2.KOf]
     refine' Mi.zS KX G ?aC ?pg ?hd ?po ?sa ?na
     case aC|pg|hd|po|sa|na=>k_is
    ·dsimp only [L2.KOf]
     refine' Mi.zS KX G ?aC ?pg ?hd ?po ?sa ?na
     case aC|pg|hd|po|sa|na=>k_is
   ·simp [FK69.excOf,or_assoc] at hc
    rcases hc with rfl|rfl|rfl|rfl
    ·dsimp only [L2.KOf]
     refine' Mi.yi KX G ?aC ?ga ?hk ?hB ?hd ?no
     case aC|ga|hk|hB|hd|no=>k_is
    ·dsimp only [L2.KOf]
     refine' Mi.yi KX G ?aC ?ga ?hk ?hB ?hd ?no
     case aC|ga|hk|hB|hd|no=>k_is
    ·dsimp only [L2.KOf]
     refine' Mi.yi KX G ?aC ?ga ?hk ?hB ?hd ?no
     case aC|ga|hk|hB|hd|no=>k_is
    ·dsimp only [L2.KOf]
     refine' Mi.yi KX G ?aC ?ga ?hk ?hB ?hd ?no
     case aC|ga|hk|hB|hd|no=>k_is
  have d_met:Mi.FldF (L2.KOf KX) mg "met" FK69.insOf FK69.excOf:=by
   refine ⟨λc hc=>?_,λc hc=>?_⟩
   ·simp [FK69.insOf,or_assoc] at hc
    rcases hc with rfl|rfl|rfl|rfl|rfl|rfl
    ·dsimp only [L2.KOf]
     refine' Mi.zS KX G ?aC ?pg ?hd ?po ?sa ?na
     case aC|pg|hd|po|sa|na=>k_is
    ·dsimp only [L2.KOf]
     refine' Mi.zS KX G ?aC ?pg ?hd ?po ?sa ?na
     case aC|pg|hd|po|sa|na=>k_is
    ·dsimp only [L2.KOf]
     refine' Mi.zS KX G ?aC ?pg ?hd ?po ?sa ?na
     case aC|pg|hd|po|sa|na=>k_is
    ·dsimp only [L2.KOf]
     refine' Mi.zS KX G ?aC ?pg ?hd ?po ?sa ?na
     case aC|pg|hd|po|sa|na=>k_is
    ·dsimp only [L2.KOf]
     refine' Mi.zS KX G ?aC ?pg ?hd ?po ?sa ?na
     case aC|pg|hd|po|sa|na=>k_is
    ·dsimp only [L2.KOf]
     refine' Mi.zS KX G ?aC ?pg ?hd ?po ?sa ?na
     case aC|pg|hd|po|sa|na=>k_is
   ·simp [FK69.excOf,or_assoc] at hc
    rcases hc with rfl|rfl|rfl|rfl
    ·dsimp only [L2.KOf]
     refine' Mi.yi KX G ?aC ?ga ?hk ?hB ?hd ?no
     case aC|ga|hk|hB|hd|no=>k_is
    ·dsimp only [L2.KOf]
     refine' Mi.yi KX G ?aC ?ga ?hk ?hB ?hd ?no
     case aC|ga|hk|hB|hd|no=>k_is
    ·dsimp only [L2.KOf]
     refine' Mi.yi KX G ?aC ?ga ?hk ?hB ?hd ?no
     case aC|ga|hk|hB|hd|no=>k_is
    ·dsimp only [L2.KOf]
     refine' Mi.yi KX G ?aC ?ga ?hk ?hB ?hd ?no
     case aC|ga|hk|hB|hd|no=>k_is
  have d_name:Mi.FldF (L2.KOf KX) mg "name" FK69.insOf FK69.excOf:=by
   refine ⟨λc hc=>?_,λc hc=>?_⟩
   ·simp [FK69.insOf,or_assoc] at hc
    rcases hc with rfl|rfl|rfl|rfl|rfl|rfl
    ·dsimp only [L2.KOf]
     refine' Mi.zS KX G ?aC ?pg ?hd ?po ?sa ?na
     case aC|pg|hd|po|sa|na=>k_is
    ·dsimp only [L2.KOf]
     refine' Mi.zS KX G ?aC ?pg ?hd ?po ?sa ?na
     case aC|pg|hd|po|sa|na=>k_is
    ·dsimp only [L2.KOf]
     refine' Mi.zS KX G ?aC ?pg ?hd ?po ?sa ?na
     case aC|pg|hd|po|sa|na=>k_is
    ·dsimp only [L2.KOf]
     refine' Mi.zS KX G ?aC ?pg ?hd ?po ?sa ?na
     case aC|pg|hd|po|sa|na=>k_is
    ·dsimp only [L2.KOf]
     refine' Mi.zS KX G ?aC ?pg ?hd ?po ?sa ?na
     case aC|pg|hd|po|sa|na=>k_is
    ·dsimp only [L2.KOf]
     refine' Mi.zS KX G ?aC ?pg ?hd ?po ?sa ?na
     case aC|pg|hd|po|sa|na=>k_is
   ·simp [FK69.excOf,or_assoc] at hc
    rcases hc with rfl|rfl|rfl|rfl
    ·dsimp only [L2.KOf]
     refine' Mi.yi KX G ?aC ?ga ?hk ?hB ?hd ?no
     case aC|ga|hk|hB|hd|no=>k_is
    ·dsimp only [L2.KOf]
     refine' Mi.yi KX G ?aC ?ga ?hk ?hB ?hd ?no
     case aC|ga|hk|hB|hd|no=>k_is
    ·dsimp only [L2.KOf]
     refine' Mi.yi KX G ?aC ?ga ?hk ?hB ?hd ?no
     case aC|ga|hk|hB|hd|no=>k_is
    ·dsimp only [L2.KOf]
     refine' Mi.yi KX G ?aC ?ga ?hk ?hB ?hd ?no
     case aC|ga|hk|hB|hd|no=>k_is
  have d_names:Mi.FldF (L2.KOf KX) mg "names" FK69.insOf FK69.excOf:=by
   refine ⟨λc hc=>?_,λc hc=>?_⟩
   ·simp [FK69.insOf,or_assoc] at hc
    rcases hc with rfl|rfl|rfl|rfl|rfl|rfl
    ·dsimp only [L2.KOf]
     refine' Mi.zS KX G ?aC ?pg ?hd ?po ?sa ?na
     case aC|pg|hd|po|sa|na=>k_is
    ·dsimp only [L2.KOf]
     refine' Mi.zS KX G ?aC ?pg ?hd ?po ?sa ?na
     case aC|pg|hd|po|sa|na=>k_is
    ·dsimp only [L2.KOf]
     refine' Mi.zS KX G ?aC ?pg ?hd ?po ?sa ?na
     case aC|pg|hd|po|sa|na=>k_is
    ·dsimp only [L2.KOf]
     refine' Mi.zS KX G ?aC ?pg ?hd ?po ?sa ?na
     case aC|pg|hd|po|sa|na=>k_is
    ·dsimp only [L2.KOf]
     refine' Mi.zS KX G ?aC ?pg ?hd ?po ?sa ?na
     case aC|pg|hd|po|sa|na=>k_is
    ·dsimp only [L2.KOf]
     refine' Mi.zS KX G ?aC ?pg ?hd ?po ?sa ?na
     case aC|pg|hd|po|sa|na=>k_is
   ·simp [FK69.excOf,or_assoc] at hc
    rcases hc with rfl|rfl|rfl|rfl
    ·dsimp only [L2.KOf]
     refine' Mi.yi KX G ?aC ?ga ?hk ?hB ?hd ?no
     case aC|ga|hk|hB|hd|no=>k_is
    ·dsimp only [L2.KOf]
     refine' Mi.yi KX G ?aC ?ga ?hk ?hB ?hd ?no
     case aC|ga|hk|hB|hd|no=>k_is
    ·dsimp only [L2.KOf]
     refine' Mi.yi KX G ?aC ?ga ?hk ?hB ?hd ?no
     case aC|ga|hk|hB|hd|no=>k_is
    ·dsimp only [L2.KOf]
     refine' Mi.yi KX G ?aC ?ga ?hk ?hB ?hd ?no
     case aC|ga|hk|hB|hd|no=>k_is
  have d_pairs:Mi.FldF (L2.KOf KX) mg "pairs" FK69.insOf FK69.excOf:=by
   refine ⟨λc hc=>?_,λc hc=>?_⟩
   ·simp [FK69.insOf,or_assoc] at hc
    rcases hc with rfl|rfl|rfl|rfl|rfl|rfl
    ·dsimp only [L2.KOf]
     refine' Mi.zS KX G ?aC ?pg ?hd ?po ?sa ?na
     case aC|pg|hd|po|sa|na=>k_is
    ·dsimp only [L2.KOf]
     refine' Mi.zS KX G ?aC ?pg ?hd ?po ?sa ?na
     case aC|pg|hd|po|sa|na=>k_is
    ·dsimp only [L2.KOf]
     refine' Mi.zS KX G ?aC ?pg ?hd ?po ?sa ?na
     case aC|pg|hd|po|sa|na=>k_is
    ·dsimp only [L2.KOf]
     refine' Mi.zS KX G ?aC ?pg ?hd ?po ?sa ?na
     case aC|pg|hd|po|sa|na=>k_is
    ·dsimp only [L2.KOf]
     refine' Mi.zS KX G ?aC ?pg ?hd ?po ?sa ?na
     case aC|pg|hd|po|sa|na=>k_is
    ·dsimp only [L2.KOf]
     refine' Mi.zS KX G ?aC ?pg ?hd ?po ?sa ?na
     case aC|pg|hd|po|sa|na=>k_is
   ·simp [FK69.excOf,or_assoc] at hc
    rcases hc with rfl|rfl|rfl|rfl
    ·dsimp only [L2.KOf]
     refine' Mi.yi KX G ?aC ?ga ?hk ?hB ?hd ?no
     case aC|ga|hk|hB|hd|no=>k_is
    ·dsimp only [L2.KOf]
     refine' Mi.yi KX G ?aC ?ga ?hk ?hB ?hd ?no
     case aC|ga|hk|hB|hd|no=>k_is
    ·dsimp only [L2.KOf]
     refine' Mi.yi KX G ?aC ?ga ?hk ?hB ?hd ?no
     case aC|ga|hk|hB|hd|no=>k_is
    ·dsimp only [L2.KOf]
     refine' Mi.yi KX G ?aC ?ga ?hk ?hB ?hd ?no
     case aC|ga|hk|hB|hd|no=>k_is
  have d_ring:Mi.FldF (L2.KOf KX) mg "ring" FK69.insOf FK69.excOf:=by
   refine ⟨λc hc=>?_,λc hc=>?_⟩
   ·simp [FK69.insOf,or_assoc] at hc
    rcases hc with rfl|rfl|rfl|rfl|rfl|rfl
    ·dsimp only [L2.KOf]
     refine' Mi.zS KX G ?aC ?pg ?hd ?po ?sa ?na
     case aC|pg|hd|po|sa|na=>k_is
    ·dsimp only [L2.KOf]
     refine' Mi.zS KX G ?aC ?pg ?hd ?po ?sa ?na
     case aC|pg|hd|po|sa|na=>k_is
    ·dsimp only [L2.KOf]
     refine' Mi.zS KX G ?aC ?pg ?hd ?po ?sa ?na
     case aC|pg|hd|po|sa|na=>k_is
    ·dsimp only [L2.KOf]
     refine' Mi.zS KX G ?aC ?pg ?hd ?po ?sa ?na
     case aC|pg|hd|po|sa|na=>k_is
    ·dsimp only [L2.KOf]
     refine' Mi.zS KX G ?aC ?pg ?hd ?po ?sa ?na
     case aC|pg|hd|po|sa|na=>k_is
    ·dsimp only [L2.KOf]
     refine' Mi.zS KX G ?aC ?pg ?hd ?po ?sa ?na
     case aC|pg|hd|po|sa|na=>k_is
   ·simp [FK69.excOf,or_assoc] at hc
    rcases hc with rfl|rfl|rfl|rfl
    ·dsimp only [L2.KOf]
     refine' Mi.yi KX G ?aC ?ga ?hk ?hB ?hd ?no
     case aC|ga|hk|hB|hd|no=>k_is
    ·dsimp only [L2.KOf]
     refine' Mi.yi KX G ?aC ?ga ?hk ?hB ?hd ?no
     case aC|ga|hk|hB|hd|no=>k_is
    ·dsimp only [L2.KOf]
     refine' Mi.yi KX G ?aC ?ga ?hk ?hB ?hd ?no
     case aC|ga|hk|hB|hd|no=>k_is
    ·dsimp only [L2.KOf]
     refine' Mi.yi KX G ?aC ?ga ?hk ?hB ?hd ?no
     case aC|ga|hk|hB|hd|no=>k_is
  have d_things:Mi.FldF (L2.KOf KX) mg "things" FK69.insOf FK69.excOf:=by
   refine ⟨λc hc=>?_,λc hc=>?_⟩
   ·simp [FK69.insOf,or_assoc] at hc
    rcases hc with rfl|rfl|rfl|rfl|rfl|rfl
    ·dsimp only [L2.KOf]
     refine' Mi.zS KX G ?aC ?pg ?hd ?po ?sa ?na
     case aC|pg|hd|po|sa|na=>k_is
    ·dsimp only [L2.KOf]
     refine' Mi.zS KX G ?aC ?pg ?hd ?po ?sa ?na
     case aC|pg|hd|po|sa|na=>k_is
    ·dsimp only [L2.KOf]
     refine' Mi.zS KX G ?aC ?pg ?hd ?po ?sa ?na
     case aC|pg|hd|po|sa|na=>k_is
    ·dsimp only [L2.KOf]
     refine' Mi.zS KX G ?aC ?pg ?hd ?po ?sa ?na
     case aC|pg|hd|po|sa|na=>k_is
    ·dsimp only [L2.KOf]
     refine' Mi.zS KX G ?aC ?pg ?hd ?po ?sa ?na
     case aC|pg|hd|po|sa|na=>k_is
    ·dsimp only [L2.KOf]
     refine' Mi.zS KX G ?aC ?pg ?hd ?po ?sa ?na
     case aC|pg|hd|po|sa|na=>k_is
   ·simp [FK69.excOf,or_assoc] at hc
    rcases hc with rfl|rfl|rfl|rfl
    ·dsimp only [L2.KOf]
     refine' Mi.yi KX G ?aC ?ga ?hk ?hB ?hd ?no
     case aC|ga|hk|hB|hd|no=>k_is
    ·dsimp only [L2.KOf]
     refine' Mi.yi KX G ?aC ?ga ?hk ?hB ?hd ?no
     case aC|ga|hk|hB|hd|no=>k_is
    ·dsimp only [L2.KOf]
     refine' Mi.yi KX G ?aC ?ga ?hk ?hB ?hd ?no
     case aC|ga|hk|hB|hd|no=>k_is
    ·dsimp only [L2.KOf]
     refine' Mi.yi KX G ?aC ?ga ?hk ?hB ?hd ?no
     case aC|ga|hk|hB|hd|no=>k_is
  have d_value:Mi.FldF (L2.KOf KX) mg "value" FK69.insOf FK69.excOf:=by
   refine ⟨λc hc=>?_,λc hc=>?_⟩
   ·simp [FK69.insOf,or_assoc] at hc
    rcases hc with rfl|rfl|rfl|rfl|rfl|rfl
    ·dsimp only [L2.KOf]
     refine' Mi.zS KX G ?aC ?pg ?hd ?po ?sa ?na
     case aC|pg|hd|po|sa|na=>k_is
    ·dsimp only [L2.KOf]
     refine' Mi.zS KX G ?aC ?pg ?hd ?po ?sa ?na
     case aC|pg|hd|po|sa|na=>k_is
    ·dsimp only [L2.KOf]
     refine' Mi.zS KX G ?aC ?pg ?hd ?po ?sa ?na
     case aC|pg|hd|po|sa|na=>k_is
    ·dsimp only [L2.KOf]
     refine' Mi.zS KX G ?aC ?pg ?hd ?po ?sa ?na
     case aC|pg|hd|po|sa|na=>k_is
    ·dsimp only [L2.KOf]
     refine' Mi.zS KX G ?aC ?pg ?hd ?po ?sa ?na
     case aC|pg|hd|po|sa|na=>k_is
    ·dsimp only [L2.KOf]
     refine' Mi.zS KX G ?aC ?pg ?hd ?po ?sa ?na
     case aC|pg|hd|po|sa|na=>k_is
   ·simp [FK69.excOf,or_assoc] at hc
    rcases hc with rfl|rfl|rfl|rfl
    ·dsimp only [L2.KOf]
     refine' Mi.yi KX G ?aC ?ga ?hk ?hB ?hd ?no
     case aC|ga|hk|hB|hd|no=>k_is
    ·dsimp only [L2.KOf]
     refine' Mi.yi KX G ?aC ?ga ?hk ?hB ?hd ?no
     case aC|ga|hk|hB|hd|no=>k_is
    ·dsimp only [L2.KOf]
     refine' Mi.yi KX G ?aC ?ga ?hk ?hB ?hd ?no
     case aC|ga|hk|hB|hd|no=>k_is
    ·dsimp only [L2.KOf]
     refine' Mi.yi KX G ?aC ?ga ?hk ?hB ?hd ?no
     case aC|ga|hk|hB|hd|no=>k_is
  have d_word:Mi.FldF (L2.KOf KX) mg "word" FK69.insOf FK69.excOf:=by
   refine ⟨λc hc=>?_,λc hc=>?_⟩
   ·simp [FK69.insOf,or_assoc] at hc
    rcases hc with rfl|rfl|rfl|rfl|rfl|rfl
    ·dsimp only [L2.KOf]
     refine' Mi.zS KX G ?aC ?pg ?hd ?po ?sa ?na
     case aC|pg|hd|po|sa|na=>k_is
    ·dsimp only [L2.KOf]
     refine' Mi.zS KX G ?aC ?pg ?hd ?po ?sa ?na
     case aC|pg|hd|po|sa|na=>k_is
    ·dsimp only [L2.KOf]
     refine' Mi.zS KX G ?aC ?pg ?hd ?po ?sa ?na
     case aC|pg|hd|po|sa|na=>k_is
    ·dsimp only [L2.KOf]
     refine' Mi.zS KX G ?aC ?pg ?hd ?po ?sa ?na
     case aC|pg|hd|po|sa|na=>k_is
    ·dsimp only [L2.KOf]
     refine' Mi.zS KX G ?aC ?pg ?hd ?po ?sa ?na
     case aC|pg|hd|po|sa|na=>k_is
    ·dsimp only [L2.KOf]
     refine' Mi.zS KX G ?aC ?pg ?hd ?po ?sa ?na
     case aC|pg|hd|po|sa|na=>k_is
   ·simp [FK69.excOf,or_assoc] at hc
    rcases hc with rfl|rfl|rfl|rfl
    ·dsimp only [L2.KOf]
     refine' Mi.yi KX G ?aC ?ga ?hk ?hB ?hd ?no
     case aC|ga|hk|hB|hd|no=>k_is
    ·dsimp only [L2.KOf]
     refine' Mi.yi KX G ?aC ?ga ?hk ?hB ?hd ?no
     case aC|ga|hk|hB|hd|no=>k_is
    ·dsimp only [L2.KOf]
     refine' Mi.yi KX G ?aC ?ga ?hk ?hB ?hd ?no
     case aC|ga|hk|hB|hd|no=>k_is
    ·dsimp only [L2.KOf]
     refine' Mi.yi KX G ?aC ?ga ?hk ?hB ?hd ?no
     case aC|ga|hk|hB|hd|no=>k_is
  have is:Mi.IsF (L2.KOf KX) mg FK69.isT:=by
   exact Mi.zqZ rfl rfl rfl
  have kd_OPS:∀X:L2.Cx,X.K=(L2.KOf KX)->X.mg=mg->X.w=w->Mi.KdF X "OPS" FK69.w5 FK69.w6 FK69.zgi:=by
   dsimp only [L2.KOf]
   refine' Mi.zrp KX G ?aO ?lO ?hk ?no rfl ?ks ?hi
   case aO|lO=>k_is
   case hk =>
    repeat (refine ⟨⟨_,_,rfl,rfl⟩,?_⟩)
    exact trivial
   (case no=>first|rfl|decide)
   (case ks=>first|rfl|decide|kernel_rfl)
   case hi =>
    simp only [FK69.w5,FK69.w6,List.zip_cons_cons,List.zip_nil_left]
    refine Mi.all_cons ?_ ?_
    ·refine' Mi.wE KX G ?e ?l1 ?l2 ?a
     case e|l1|l2|a=>k_is
    refine Mi.all_cons ?_ ?_
    ·refine' Mi.wE KX G ?e ?l1 ?l2 ?a
     case e|l1|l2|a=>k_is
    refine Mi.all_cons ?_ ?_
    ·refine' Mi.wE KX G ?e ?l1 ?l2 ?a
     case e|l1|l2|a=>k_is
    refine Mi.all_cons ?_ ?_
    ·refine' Mi.wE KX G ?e ?l1 ?l2 ?a
     case e|l1|l2|a=>k_is
    refine Mi.all_cons ?_ ?_
    ·refine' Mi.wE KX G ?e ?l1 ?l2 ?a
     case e|l1|l2|a=>k_is
    refine Mi.all_cons ?_ ?_
    ·refine' Mi.wE KX G ?e ?l1 ?l2 ?a
     case e|l1|l2|a=>k_is
    refine Mi.all_cons ?_ ?_
    ·refine' Mi.wE KX G ?e ?l1 ?l2 ?a
     case e|l1|l2|a=>k_is
    refine Mi.all_cons ?_ ?_
    ·refine' Mi.zbV KX G ?e ?l1 ?l2 ?a
     case e|l1|l2|a=>k_is
    refine Mi.all_cons ?_ ?_
    ·refine' Mi.zbV KX G ?e ?l1 ?l2 ?a
     case e|l1|l2|a=>k_is
    refine Mi.all_cons ?_ ?_
    ·refine' Mi.wE KX G ?e ?l1 ?l2 ?a
     case e|l1|l2|a=>k_is
    refine Mi.all_cons ?_ ?_
    ·refine' Mi.zbV KX G ?e ?l1 ?l2 ?a
     case e|l1|l2|a=>k_is
    refine Mi.all_cons ?_ ?_
    ·refine' Mi.zbV KX G ?e ?l1 ?l2 ?a
     case e|l1|l2|a=>k_is
    refine Mi.all_cons ?_ ?_
    ·refine' Mi.zbV KX G ?e ?l1 ?l2 ?a
     case e|l1|l2|a=>k_is
    refine Mi.all_cons ?_ ?_
    ·refine' Mi.wE KX G ?e ?l1 ?l2 ?a
     case e|l1|l2|a=>k_is
    refine Mi.all_cons ?_ ?_
    ·refine' Mi.zjv KX G ?e ?l1 ?l2 ?a
     case e|l1|l2|a=>k_is
    refine Mi.all_cons ?_ ?_
    ·refine' Mi.wE KX G ?e ?l1 ?l2 ?a
     case e|l1|l2|a=>k_is
    refine Mi.all_cons ?_ ?_
    ·refine' Mi.zjv KX G ?e ?l1 ?l2 ?a
     case e|l1|l2|a=>k_is
    exact Mi.zqy
  have T:FK69.Txt w (L2.KOf KX) mg:=⟨f__law_cell_at,f__law_end,f__law_turned,f__law_program,f_functions_by_name,f_marked,f_is_later_at,f_later_params,f_lines_of,f_bits_of,f_need,f_is_step,f_atoms_of,f_broken_name,f_aim_of,f_broken_aim,f_broken_form,f_broken,f_forms_by_pair,n_KeyRing,f_kind_of,f_show_value,m_KeyRing_name_for,f_known_params,n_Known,n_Later,n_Making,f_thing_of,m_Making_things_at,m_Known_atom,m_Later_atom,m_Making_left_aim,m_Making_left_call,m_Making_left_let,f_check_kinds,f_in_bounds,f_within_bounds,f_tell_add,f_tell_sub,f_tell_mul,f_tell_div,f_tell_rem,f_number_of,f_tell_less,f_tell_same,f_tell_down,f_tell_kind,f_tell_front,f_filled,f_tell_head,f_tell_rest,f_tell_many,f_place_in,f_tell_item,f_tell_put,f_tell_field,f_tell_set,f_things_within,f_all_within,f_parts,m_Op_answer,n_Op,f_op_of,m_Making_answer_ahead,m_Making_left_go,m_Known_ahead,m_Later_ahead,f_chooses_first,f_aims_of,m_Making_decided,m_Making_made_end,m_Making_made_block,f_made_function,f_make,f_held_bits,n_Holding,m_Holding_goal_of,m_Holding_makes_later,m_Holding_best_form,f_aimed_pairs,f_best,f__law_made,f_law,x_Fault,x_NoOp,x_NotLetBy,x_TooMany,b_dict,b_enumerate,b_isinstance,b_len,b_list,b_range,b_sorted,b_str,b_tuple,b_zip,c_MOST_PARTS,c_NUMBER_BOUND,d_bits_by_name,d_goals,d_later,d_limit,d_many,d_met,d_name,d_names,d_pairs,d_ring,d_things,d_value,d_word,is,kd_OPS⟩
  exact Mi.zqz T.f_law hmg (λ_ _ _ _ _ _ _=>rfl) (λf fd F base=>FK69.zxv T F) (λns _=>FK69.zze ns))
