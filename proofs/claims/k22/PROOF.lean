import PyProof.Rows.All
import Wide.All
import OpenK.AllK
import Wide.FinOn
import Lean
import PyProof.EqAt
import PyProof.EqKinds
import PyProof.TupleCall
import PySem.Challenge.RW_foreknown_k22_values_spoilt
set_option Elab.async false
set_option linter.all false
set_option maxRecDepth 100000
noncomputable section
abbrev Aa:=PySem.Value->PySem.Shared->Prop
abbrev Ab:=PySem.Str->Option PySem.Value
abbrev Ac:=List (PySem.Addr×PySem.Obj)
abbrev Ad:=List PySem.Str
abbrev Ae:=List PySem.Addr
abbrev Af:=List PySem.Value
def zy:=@PySem.wpAny_bind
def z8:=@PySem.Heap.get?_push_of_some
def zW:=@PySem.wpAny_pure
def yb:=@PySem.Heap.lt_size
def yV:=@PySem.Heap.get?_push_size
def wS:=@PySem.wpAny_field
def hG:=@PySem.wpAny_newObj_type
def fI:=@PySem.wpAny_holding
def yM:=@PySem.wpAny_mono
def wT:=@PySem.Heap.get?_update_other
def hI:=@PySem.wpAny_truthy_bool
def nJ:=@PySem.lookup_relabel_local
def yc:=@List.getElem?_eq_getElem
def yI:=@List.getElem?_set_ne
def yN:=@List.getElem?_eq_some_iff
def jr:=@List.getElem?_set_self
def z0:=@Nat.le_refl
def yO:=@List.size_toArray
def zY:=@List.mem_cons_self
def yd:=@List.mem_cons_of_mem
def yP:=@List.mem_append_right
def kI:=@List.mem_append_left
def zj:=@if_pos
def zx:=@if_neg
def hU:=@List.mem_singleton
def y7:=@List.getElem?_map
def yn:=@List.mem_cons
def fJ:=@List.drop_eq_getElem_cons
def yW:=@Nat.le_trans
def lS:=@List.getElem_mem
def jc:=@List.length_append
def jH:=@if_true
def jP:=@Nat.zero_le
def jy:=@List.mem_of_getElem?
def yX:=@List.length_map
def y8:=@List.map_append
def yY:=@Nat.lt_of_lt_of_le
def yi:=@List.map_cons
def yB:=@Nat.ne_of_lt
def nK:=@List.getElem_of_mem
def yC:=@Bool.and_eq_true
def j1:=@List.mem_map
def j2:=@List.mem_append
def yA:=@List.length_cons
def wC:=@List.nodup_cons
def gj:=@List.getElem?_append_left
def hV:=@List.getElem?_append_right
def js:=@decide_eq_false
def wf:=@decide_eq_true
def kJ:=@List.drop_of_length_le
def wU:=@List.lookup_cons
def hW:=@List.getElem?_eq_none_iff
def kK:=@List.append_assoc
def yZ:=@decide_eq_true_eq
def y0:=@Ne.symm
def qk:=@List.length_singleton
def wV:=@Nat.lt_succ_self
namespace L2
open PySem PySem.Spec PyProof.Rows
abbrev Key:=Sum Int Str
def cL:Key->Value->Bool
 |.inl k,v=>Value.isInt k v
 |.inr x,v=>Value.isStrOf x v
def uK (w:World):Key->Int
 |.inl k=>hashInt k
 |.inr x=>hashStr w x
def wg:∀{k:Key}{v:Value},cL k v=true->(∃i t,k=Sum.inl i/\v=Value.int i t)\/(∃x t,k=Sum.inr x/\v=Value.str x t)
 |.inl i,v,h=>by
  obtain ⟨t,e⟩:=Value.isInt_shape (k:=i) (v:=v) h
  exact .inl ⟨i,t,rfl,e⟩
 |.inr x,v,h=>by
  obtain ⟨t,e⟩:=Value.isStrOf_shape (x:=x) (v:=v) h
  exact .inr ⟨x,t,rfl,e⟩
def Ea (i:Int) (t:Tok):cL (.inl i) (.int i t)=true:=by simp [cL,Value.isInt]
def Eb (x:Str) (t:Tok):cL (.inr x) (.str x t)=true:=by simp [cL,Value.isStrOf]
def Ec (a b:Int):decide ((Sum.inl a:Key)=Sum.inl b)=(a==b):=by
 by_cases e:a=b
 ·subst e;simp
 ·have h:¬(Sum.inl a:Key)=Sum.inl b:=λq=>e (Sum.inl.inj q)
  rw [js h]
  exact (beq_eq_false_iff_ne.mpr e).symm
def Ee (a b:Str):decide ((Sum.inr a:Key)=Sum.inr b)=decide (a=b):=by
 by_cases e:a=b
 ·subst e;simp
 ·have h:¬(Sum.inr a:Key)=Sum.inr b:=λq=>e (Sum.inr.inj q)
  rw [js h,js e]
def Ef (a:Int) (b:Str):decide ((Sum.inl a:Key)=Sum.inr b)=false:=js (λq=>nomatch q)
def Eg (a:Str) (b:Int):decide ((Sum.inr a:Key)=Sum.inl b)=false:=js (λq=>nomatch q)
def aX (prog:Program) (w:World):PySem.KeyKind prog w Key where
 is:=cL
 hash:=uK w
 inj:=λv a b ha hb=>by
  rcases wg ha with ⟨i,t,rfl,rfl⟩|⟨x,t,rfl,rfl⟩
  ·rcases wg hb with ⟨j,u,rfl,e⟩|⟨y,u,rfl,e⟩
   ·injection e with e1 _;rw [e1]
   ·exact nomatch e
  ·rcases wg hb with ⟨j,u,rfl,e⟩|⟨y,u,rfl,e⟩
   ·exact nomatch e
   ·injection e with e1 _;rw [e1]
 byValue:=λk v h=>by
  rcases wg h with ⟨i,t,rfl,rfl⟩|⟨x,t,rfl,rfl⟩<;>rfl
 pyHash:=λhv h=>by
  rcases wg hv with ⟨i,t,rfl,rfl⟩|⟨x,t,rfl,rfl⟩
  ·exact wpAny_pyHash_int h
  ·exact wpAny_pyHash_str h
 eqBool:=λhu hv h=>by
  rcases wg hu with ⟨i,t,rfl,rfl⟩|⟨x,t,rfl,rfl⟩
  ·rcases wg hv with ⟨j,u,rfl,rfl⟩|⟨y,u,rfl,rfl⟩
   ·rw [Ec] at h;exact wpAny_eqBool_int h
   ·rw [Ef] at h;exact SeqAt.EqAt.int_str i t y u _ _ _ _ h
  ·rcases wg hv with ⟨j,u,rfl,rfl⟩|⟨y,u,rfl,rfl⟩
   ·rw [Eg] at h;exact SeqAt.EqAt.str_int x t j u _ _ _ _ h
   ·rw [Ee] at h;exact wpAny_eqBool_str h
 «strs» := λk x t v h=>by
  rcases wg h with ⟨i,u,rfl,e⟩|⟨y,u,rfl,e⟩
  ·exact nomatch e
  ·injection e with e1 _
   subst e1
   cases v<;>rfl
def Eh (prog:Program) (w:World) (i:Int) (t:Tok):(aX prog w).is (.inl i) (.int i t)=true:=Ea i t
def Ei (prog:Program) (w:World) (x:Str) (t:Tok):(aX prog w).is (.inr x) (.str x t)=true:=Eb x t
inductive V where
 |non|bl (b:Bool)|int (i:Int)|str (x:Str)|byt (b:Array UInt8)|flt (b:UInt64)|ref (a:Addr)|ty (n:String)
 deriving DecidableEq
def RelV:V->Value->Prop
 |.non,u=>u=Value.none
 |.bl b,u=>u=Value.bool b
 |.int i,u=>∃t,u=Value.int i t
 |.str x,u=>∃t,u=Value.str x t
 |.byt b,u=>∃t,u=Value.bytes b t
 |.flt b,u=>∃t,u=Value.float b t
 |.ref a,u=>u=Value.ref a
 |.ty n,u=>u=Value.type n
abbrev Vals:List V->List Value->Prop:=Paired RelV
theorem Vals.length {xs:List V}{us:Af}(r:Vals xs us):xs.length=us.length:=Paired.length r
theorem Vals.get:∀{xs:List V}{us:Af}{i:Nat}{x:V},Vals xs us->xs[i]?=some x->∃u,us[i]?=some u/\RelV x u
 |_,_,_,_,.nil,e=>by simp at e
 |_,_,0,_,.cons r _,e=>by simp at e;subst e;exact ⟨_,rfl,r⟩
 |_,_,i+1,x,.cons _ t,e=>by
  obtain ⟨u,h1,h2⟩:=Vals.get (i:=i) (x:=x) t (by simpa using e)
  exact ⟨u,by simpa using h1,h2⟩
theorem Vals.set {x:V}{u:Value}(r:RelV x u):∀{xs:List V}{us:Af}(i:Nat),Vals xs us->Vals (xs.set i x) (us.set i u)
 |_,_,_,.nil=>.nil
 |_,_,0,.cons _ t=>.cons r t
 |_,_,i+1,.cons q t=>.cons q (Vals.set r i t)
theorem Vals.append:∀{xs ys:List V}{us ws:Af},Vals xs us->Vals ys ws->Vals (xs++ys) (us++ws)
 |_,_,_,_,.nil,s=>s
 |_,_,_,_,.cons r t,s=>.cons r (Vals.append t s)
theorem Vals.take:∀{xs:List V}{us:Af}(n:Nat),Vals xs us->Vals (xs.take n) (us.take n)
 |_,_,0,_=>.nil
 |_,_,_+1,.nil=>.nil
 |_,_,n+1,.cons r t=>.cons r (Vals.take n t)
theorem Vals.drop:∀{xs:List V}{us:Af}(n:Nat),Vals xs us->Vals (xs.drop n) (us.drop n)
 |_,_,0,r=>r
 |_,_,_+1,.nil=>.nil
 |_,_,n+1,.cons _ t=>Vals.drop n t
def bL:Option V->Option Value->Prop
 |some v,some u=>RelV v u
 |none,none=>True
 |_,_=>False
def KV {κ:Type}:List (κ×V)->List (κ×Value)->Prop:=Paired λ(p:κ×V) (q:κ×Value)=>p.1=q.1/\RelV p.2 q.2
def kV:Key->V
 |.inl i=>.int i
 |.inr x=>.str x
inductive HO where
 |lst (xs:List V)
 |tup (xs:List V)
 |dK (kvs:List (Key×V))|dT (kvs:List (List Key×V))
 |set (S:Int->Bool) (n:Nat)
 |ins (C dx:Addr) (fs:List (Str×V))
 |own (x:Addr)
 |xd (fs:List (Str×V))
 |met (f x:Addr)
 |rng (lo hi:Int)
 |frz (o:Obj) (u:HO)
 |tbl (ps:Array Value)
 |ext (φ:Program->World->Heap->Prop)
abbrev Hp:=Addr->Option HO
def upd (H:Hp) (a:Addr) (o:HO):Hp:=λb=>if b=a then some o else H b
def yD {H:Hp}{a:Addr}{o:HO}:upd H a o a=some o:=by unfold upd;rw [zj rfl]
def zR {H:Hp}{a b:Addr}{o:HO}(h:b≠a):upd H a o b=H b:=by unfold upd;rw [zx h]
def Ej {H:Hp}{a b:Addr}{o u:HO}(h:H a=some o) (h':H b=some u) (d:o≠u):a≠b:=by
 intro e;subst e;rw [h] at h';exact d (Option.some.inj h')
def wD {H:Hp}{a b:Addr}{o:HO}(h:H a=some o) (h':H b=none):a≠b:=by
 intro e;subst e;rw [h] at h';cases h'
section
variable (P:Program) (w:World)
def aU (H:Hp) (h:Heap) (a:Addr):HO->Prop
 |.lst xs=>xs.length<=sizeLine/\∃(its:Af) (n:Nat),Vals xs its/\h.get? a=some { cls:=.type "list", data:=.seq its.toArray n }
 |.tup xs=>xs.length<=sizeLine/\∃its:Af,Vals xs its/\IsTup h a its.toArray
 |.dK kvs=>kvs.length<=sizeLine/\(a==sysModules)=false/\∃vs,KV kvs vs/\h.DictOf (aX P w) a vs
 | .dT kvs=>kvs.length<=sizeLine/\(a==sysModules)=false/\∃xs:List (List Key×Addr×Value),
   Paired (λ(p:List Key×V) (q:List Key×Addr×Value)=>p.1=q.1/\H q.2.1=some (.tup (p.1.map kV))/\RelV p.2 q.2.2) kvs xs /\
   ∃o es ep,h.get? a=some o/\o.ExactDict/\o.data=.dict es ep/\es.toList=xs.map (entryOfKey (tupleKind (aX P w)))/\(xs.map (·.1)).Nodup
 |.set S n=>h.SetOf (intKind P w) a S n
 | .ins C dx fs=>H dx=some (.own a)/\fs.length<=1000/\dx≠a/\h.get? a=some (PySem.W.instObj C dx) /\
   ∃mA,h.Ns1 dx mA/\(∀f,bL (fs.lookup f) (mA f))/\PySem.Within mA (fs.map (·.1))
 |.own _=>∃o,h.get? a=some o
 |.xd fs=>∃mA,h.Ns1 a mA/\∀f,bL (fs.lookup f) (mA f)
 |.rng lo hi=>∃t u v,h.get? a=some { cls:=.type "range", data:=.fields #[.int lo t,.int hi u,.int 1 v] }
 |.frz o u=>h.get? a=some o/\aU H h a u
 |.tbl ps=>h.get? a=some { cls:=.none,data:=.fields ps }
 |.met f x=>h.get? a=some (PySem.W.methodObj (.ref f) (.ref x))
 |.ext φ=>φ P w h/\(∃o,h.get? a=some o)/\∀h1 h2:Heap,φ P w h1->(∀o,h1.get? a=some o->h2.get? a=some o)->φ P w h2
def bI (H:Hp) (h:Heap):Prop:=∀a o,H a=some o->aU P w H h a o
end
section
variable {P:Program} {w:World} {H H':Hp} {h h':Heap} {a:Addr} {o:HO}
theorem aU.lt (x:aU P w H h a o):a<h.objs.size:=by
 cases o with
 |lst xs=>obtain ⟨_,_,_,_,e⟩:=x;exact yb e
 |tup xs=>obtain ⟨_,_,_,p⟩:=x;exact p.lt
 |dK kvs=>obtain ⟨_,_,_,_,o,_,_,e,_⟩:=x;exact yb e
 |dT kvs=>obtain ⟨_,_,_,_,o,_,_,e,_⟩:=x;exact yb e
 |set S n=>obtain ⟨o,_,_,_,e,_⟩:=x;exact yb e
 |ins C dx fs=>obtain ⟨_,_,_,e,_⟩:=x;exact yb e
 |own y=>obtain ⟨_,e⟩:=x;exact yb e
 |xd fs=>obtain ⟨_,⟨_,_,_,e,_⟩,_⟩:=x;exact yb e
 |rng lo hi=>obtain ⟨_,_,_,e⟩:=x;exact yb e
 |frz ob u=>obtain ⟨e,_⟩:=x;exact yb e
 |tbl ps=>exact yb (show h.get? a=some _ from x)
 |met f y=>exact yb (show h.get? a=some _ from x)
 |ext φ=>obtain ⟨_,⟨_,e⟩,_⟩:=x;exact yb e
theorem Paired.mapP {U β:Type}{F G:U->β->Prop}:∀{aF:List U}{aE:List β},Paired F aF aE->(∀a b,F a b->G a b)->Paired G aF aE
 |_,_,.nil,_=>.nil
 |_,_,.cons r t,f=>.cons (f _ _ r) (Paired.mapP t f)
def aU.stay (x:aU P w H h a o) (k:∀b u,(b=a\/H b=some (.own a))->h.get? b=some u->h'.get? b=some u)
  (ho:∀b,H b=some (.own a)->H' b=some (.own a)) (ht:∀b xs,H b=some (.tup xs)->H' b=some (.tup xs)):aU P w H' h' a o:=by
 induction o with
 |lst xs=>obtain ⟨z,its,n,r,e⟩:=x;exact ⟨z,its,n,r,k _ _ (.inl rfl) e⟩
 |tup xs=>obtain ⟨z,its,r,ob,e,c⟩:=x;exact ⟨z,its,r,ob,k _ _ (.inl rfl) e,c⟩
 |dK kvs=>obtain ⟨z,y,vs,r,ob,es,ep,e,c⟩:=x;exact ⟨z,y,vs,r,ob,es,ep,k _ _ (.inl rfl) e,c⟩
 |dT kvs =>
  obtain ⟨z,y,xs,r,ob,es,ep,e,c⟩:=x
  exact ⟨z,y,xs,Paired.mapP r λp q z=>⟨z.1,ht _ _ z.2.1,z.2.2⟩,ob,es,ep,k _ _ (.inl rfl) e,c⟩
 |set S n=>obtain ⟨ob,es,ep,t,e,c⟩:=x;exact ⟨ob,es,ep,t,k _ _ (.inl rfl) e,c⟩
 |ins C dx fs =>
  obtain ⟨d,z,ne,e,mA,⟨od,es,ep,e2,c⟩,r⟩:=x
  exact ⟨ho _ d,z,ne,k _ _ (.inl rfl) e,mA,⟨od,es,ep,k _ _ (.inr d) e2,c⟩,r⟩
 |own y=>obtain ⟨ob,e⟩:=x;exact ⟨ob,k _ _ (.inl rfl) e⟩
 |xd fs=>obtain ⟨mA,⟨od,es,ep,e,c⟩,r⟩:=x;exact ⟨mA,⟨od,es,ep,k _ _ (.inl rfl) e,c⟩,r⟩
 |rng lo hi=>obtain ⟨t,u,v,e⟩:=x;exact ⟨t,u,v,k _ _ (.inl rfl) e⟩
 |frz ob u ih=>obtain ⟨e,q⟩:=x;exact ⟨k _ _ (.inl rfl) e,ih q⟩
 |tbl ps =>
  have e:h.get? a=some { cls:=.none,data:=.fields ps }:=x
  show h'.get? a=some { cls:=.none,data:=.fields ps }
  exact k a _ (.inl rfl) e
 |met f y =>
  have e:h.get? a=some (PySem.W.methodObj (.ref f) (.ref y)):=x
  show h'.get? a=some (PySem.W.methodObj (.ref f) (.ref y))
  exact k a _ (.inl rfl) e
 |ext φ=>obtain ⟨p,⟨o,e⟩,st⟩:=x;exact ⟨st _ _ p λo q=>k _ _ (.inl rfl) q,⟨o,k _ _ (.inl rfl) e⟩,st⟩
theorem bI.lt (x:bI P w H h) (e:H a=some o):a<h.objs.size:=(x a o e).lt
def bI.fresh (x:bI P w H h) (e:h.objs.size<=a):H a=none:=by
 cases q:H a with
 |none=>rfl
 |some u=>exact absurd (yY (x.lt q) e) (Nat.lt_irrefl _)
def bI.kept (x:bI P w H h) (k:∀b u,h.get? b=some u->h'.get? b=some u):bI P w H h':=λa o e =>
 (x a o e).stay (λb u _ q=>k b u q) (λ_ q=>q) λ_ _ q=>q
def bI.laid (x:bI P w H h) (k:∀b u,h.get? b=some u->h'.get? b=some u) (hp:h.objs.size<=a) (new:aU P w (upd H a o) h' a o):bI P w (upd H a o) h':=λb u e=>by
 have hn:=x.fresh hp
 by_cases hb:b=a
 ·subst hb;rw [yD] at e;cases e;exact new
 ·rw [zR hb] at e
  exact (x b u e).stay (λc v _ q=>k c v q) (λc q=>by rw [zR (wD q hn)];exact q) λc xs q=>by rw [zR (wD q hn)];exact q
end
def Rd (H:Hp) (a:Addr) (u:HO):Prop:=H a=some u\/∃o,H a=some (.frz o u)
def Rd.ok {P:Program}{w:World}{H:Hp}{h:Heap}{a:Addr}{u:HO}(r:Rd H a u) (x:bI P w H h):aU P w H h a u:=by
 rcases r with r|⟨o,r⟩
 ·exact x a u r
 ·obtain ⟨_,q⟩:=x a _ r
  exact q
def kL:Option HO->Prop
 |some (.lst _)=>True
 |some (.dK _)=>True
 |some (.dT _)=>True
 |some (.set _ _)=>True
 |some (.ins _ _ _)=>True
 |some (.ext _)=>True
 |_=>False
section
variable {P:Program} {w:World} {H:Hp} {h h':Heap} {x e:Addr} {o':HO}
def bI.write (ok:bI P w H h) (mu:kL (H x)) (he:e=x\/H e=some (.own x)) (k:∀b u,b≠e->h.get? b=some u->h'.get? b=some u) (kM:∃u,h'.get? e=some u)
  (new:aU P w (upd H x o') h' x o'):bI P w (upd H x o') h':=λb u q=>by
 have qa:∀c y,H c=some (.own y)->c≠x:=λc y r z=>by subst z;rw [r] at mu;exact mu
 have uL:∀c xs,H c=some (.tup xs)->c≠x:=λc xs r z=>by subst z;rw [r] at mu;exact mu
 by_cases hb:b=x
 ·subst hb;rw [yD] at q;cases q;exact new
 ·rw [zR hb] at q
  by_cases hbe:b=e
  ·have q':H b=some (.own x):=by
    rcases he with z|z
    ·exact absurd (hbe.trans z) hb
    ·rw [hbe];exact z
   rw [q] at q';cases q'
   obtain ⟨v,hv⟩:=kM
   exact ⟨v,by rw [hbe];exact hv⟩
  ·refine (ok b u q).stay (λc v hc r=>k c v ?_ r) (λc r=>by rw [zR (qa c b r)];exact r) λc xs r=>by rw [zR (uL c xs r)];exact r
   rcases hc with rfl|hc
   ·exact hbe
   ·rintro rfl
    rcases he with z|z
    ·exact qa c b hc z
    ·rw [hc] at z;cases z;exact hb rfl
end
structure Un (fs ex:Ae) (H H':Hp) (h h':Heap):Prop where
 keep:∀b o,h.get? b=some o->H b=none->b∉fs->b∉ex->h'.get? b=some o
 slot:∀b o,h.get? b=some o->H b=none->b∈fs->b∉ex->∃sl,h'.get? b=some { o with slots:=sl }
 free:∀b o,h.get? b=some o->H b=none->b∉ex->H' b=none
 there:∀b o,h.get? b=some o->b∉ex->∃o',h'.get? b=some o'
 tups:∀b xs,H b=some (.tup xs)->H' b=some (.tup xs)
 frzs:∀b o u,H b=some (.frz o u)->H' b=some (.frz o u)
 tbls:∀b ps,H b=some (.tbl ps)->∃more,H' b=some (.tbl (ps++more))
section
variable {fs gm ex uM:Ae} {H H1:Hp} {h h1 h':Heap} {a x e:Addr} {o:HO}
def Un.any (u:Un fs ex H H1 h h1) {b:Addr}{ob:Obj}(q:h.get? b=some ob) (n:H b=none) (hx:b∉ex):∃sl,h1.get? b=some { ob with slots:=sl }:=by
 by_cases hb:b∈fs
 ·exact u.slot b ob q n hb hx
 ·exact ⟨ob.slots,u.keep b ob q n hb hx⟩
def Un.kept (k:∀b u,h.get? b=some u->h'.get? b=some u):Un fs ex H H h h' :=
 ⟨λb ob q _ _ _=>k b ob q,λb ob q _ _ _=>⟨ob.slots,k b ob q⟩,λ_ _ _ n _=>n,λb ob q _=>⟨ob,k b ob q⟩,λ_ _ q=>q,λ_ _ _ q=>q,λ_ ps q=>⟨#[],by rw [q];simp⟩⟩
def Un.refl:Un fs ex H H h h:=Un.kept λ_ _ q=>q
def Un.laid (k:∀b u,h.get? b=some u->h'.get? b=some u) (hp:h.objs.size<=a) (hn:H a=none):Un fs ex H (upd H a o) h h' where
 keep:=λb u q _ _ _=>k b u q
 slot:=λb u q _ _ _=>⟨u.slots,k b u q⟩
 free:=λb u q n _=>by rw [zR (yB (yY (yb q) hp))];exact n
 there:=λb u q _=>⟨u,k b u q⟩
 tups:=λb xs q=>by rw [zR (wD q hn)];exact q
 frzs:=λb u xs q=>by rw [zR (wD q hn)];exact q
 tbls:=λb ps q=>⟨#[],by rw [zR (wD q hn),q];simp⟩
def Un.write (mu:kL (H x)) (he:e=x\/H e=some (.own x)) (k:∀b u,b≠e->h.get? b=some u->h'.get? b=some u) (kM:∃u,h'.get? e=some u):Un fs ex H (upd H x o) h h':=by
 have hx:∀b,H b=none->b≠x:=λb n z=>by subst z;rw [n] at mu;exact mu
 have hb:∀b,H b=none->b≠e:=λb n z=>by
  subst z
  rcases he with r|r
  ·exact hx b n r
  ·rw [n] at r;cases r
 have hm:∀b u,H b=some u->¬kL (some u)->b≠x:=λb u q nm z=>by subst z;rw [q] at mu;exact nm mu
 refine ⟨λb u q n _ _=>k b u (hb b n) q,λb u q n _ _=>⟨u.slots,k b u (hb b n) q⟩,λb u q n _=>by rw [zR (hx b n)];exact n,λb u q _=>?_,
  λb xs q=>by rw [zR (hm b _ q λz=>z)];exact q,λb u xs q=>by rw [zR (hm b _ q λz=>z)];exact q,λb ps q=>⟨#[],by rw [zR (hm b _ q λz=>z),q];simp⟩⟩
 by_cases hbe:b=e
 ·subst hbe;exact kM
 ·exact ⟨u,k b u hbe q⟩
def Un.mono (u:Un fs ex H H1 h h1) (hs:∀b∈fs,b∈gm) (hx:∀b∈ex,b∈uM):Un gm uM H H1 h h1 :=
 ⟨λb ob q n hb he=>u.keep b ob q n (λz=>hb (hs b z)) λz=>he (hx b z),λ_ _ q n _ he=>u.any q n λz=>he (hx _ z),λb ob q n he=>u.free b ob q n λz=>he (hx b z),λb ob q he=>u.there b ob q λz=>he (hx b z),u.tups,u.frzs,u.tbls⟩
end
def nL (h:Heap) (H:Hp):Ae:=(List.range h.objs.size).filter λa=>(H a).isSome
def dF (h:Heap) (H:Hp):Heap:=PySem.W.hideAll h (nL h H)
def Ek (h:Heap) (H:Hp):(dF h H).objs.size=h.objs.size:=PySem.W.hideAll_size _ _
def El {h:Heap}{H:Hp}{b:Addr}{o:Obj}(e:h.get? b=some o) (n:H b=none):(dF h H).get? b=some o :=
 PySem.W.hideAll_get _ e λhm=>by
  have q:(H b).isSome=true:=(List.mem_filter.mp hm).2
  rw [n] at q;simp at q
def Em {h:Heap}{H:Hp}{b:Addr}{o:Obj}(e:(dF h H).get? b=some o):h.get? b=some o/\H b=none:=by
 have e':h.get? b=some o:=PySem.W.of_hideAll (nL h H) e
 refine ⟨e',?_⟩
 cases q:H b with
 |none=>rfl
 |some x =>
  have hm:b∈nL h H:=List.mem_filter.mpr ⟨List.mem_range.mpr (yb e'),by simp [q]⟩
  have z:(dF h H).get? b=none:=PySem.W.hideAll_none (nL h H) hm
  rw [z] at e;cases e
def lT (g h:Heap) (L:Addr):Ac:=(List.range h.objs.size).filterMap λa=>if a=L\/(g.get? a).isSome=true then none else (h.get? a).map λo=>(a,o)
def rest (g h:Heap) (L d:Addr):Ac:=(lT g h L).filter λp=>decide (p.1≠d)
structure Mod (K:PySem.W.Frag) (mg:Ab) (base:Heap):Prop where
 kin:K.In base
 glob:base.Ns mainGlobals mg
 blt:∃mb,base.Ns builtinsNs mb/\∀x:Str,x ≠ "__name__" -> mb x=bootBuiltins x
 nolimit:base.NoLimit
structure Cx where
 prog:Program
 w:World
 K:PySem.W.Frag
 mg:Ab
 base:Heap
 A:Around
 N:Ad
 s₀:Shared
 H₀:Hp
 env:Env
 outer:List Env
 stack:List Env
 ex:Ae
 fn:Str->Bool
 calm:Bool
 pn:Ac
 xe:Aa
def cg (l:List Env):Ae:=l.filterMap (·.frame)
abbrev Cx.fs (X:Cx):Ae:=cg X.outer
def qm (sc:Scope) (x:Str):Prop:=sc.names.lookup x=some .local\/sc.names.lookup x=some .cell\/sc.names.lookup x=some .free
def Loc (sc:Scope) (x:Str):Prop:=sc.names.lookup x=some .local\/sc.names.lookup x=some .cell
def Look (env:Env) (h:Heap) (m:Ab) (x:Str) (u:Value):Prop :=
 (env.kindOf x=some .local/\m x=some u)\/((env.kindOf x=some .cell\/env.kindOf x=some .free)/\∃c,env.cells.lookup x=some c/\h.IsCell c (some u))
structure Cx.Ok (X:Cx):Prop where
 mod:Mod X.K X.mg X.base
 kind:X.env.scope.kind=.function
 glob:X.env.globals=mainGlobals
 blt:X.env.builtins=builtinsNs
 above:X.s₀.heap.objs.size<=X.env.locals
 inj:∀x y c,X.env.cells.lookup x=some c->X.env.cells.lookup y=some c->x=y
 has:∀x,(X.env.kindOf x=some .cell\/X.env.kindOf x=some .free)->∃c,X.env.cells.lookup x=some c
 cab:∀x c,X.fn x=true->X.env.cells.lookup x=some c->X.s₀.heap.objs.size<=c
 hd:X.calm=true->X.A.handled=none
 frames:X.A.frames=some X.stack
 stk:X.stack=X.outer\/(X.stack=X.env::X.outer/\X.env.frame=some X.env.locals)
 exf:∀b∈X.ex,b≠X.env.locals/\∀x c,X.env.cells.lookup x=some c->c≠b
 bs:∀b o,X.base.get? b=some o->X.s₀.heap.get? b=some o/\X.H₀ b=none
 bsz:X.base.objs.size<=X.s₀.heap.objs.size
 noex:∀b o,X.base.get? b=some o->b∉X.ex
 exfs:∀b∈X.ex,b∉X.fs
 funs:X.s₀.heap.FunFrames X.base X.outer
 frf:∀b∈X.fs,X.H₀ b=none
structure Inv (X:Cx) (pins:Ac) (σ:List (Option V)) (H:Hp) (s:Shared):Prop where
 ok:X.Ok
 os:s.os=X.s₀.os
 bare:AllBare s.gens
 base:Un X.fs X.ex X.H₀ H X.s₀.heap s.heap
 loc:∃m,s.heap.Ns X.env.locals m/\∀(i:Nat) (x:Str) (v:V),X.N[i]?=some x->σ[i]?=some (some v)->qm X.env.scope x->∃u,RelV v u/\Look X.env s.heap m x u
 cell:∀x c,X.env.cells.lookup x=some c->∃v,s.heap.IsCell c v
 free:H X.env.locals=none
 freeC:∀x c,X.env.cells.lookup x=some c->H c=none
 pin:∀p∈X.pn++pins,s.heap.get? p.1=some p.2/\H p.1=none/\p.1≠X.env.locals/\p.1∉X.fs/\∀v,p.2.data ≠ .cell v
 hok:bI X.prog X.w H s.heap
 len:σ.length=X.N.length
section
variable {X:Cx} {pins:Ac} {σ:List (Option V)} {H H':Hp} {s:Shared} {h':Heap}
def Cx.Ok.nofr (ok:X.Ok) {b:Addr}{o:Obj}(e:X.base.get? b=some o):b∉X.fs:=λhb=>by
 have:=(ok.funs.mem hb).1
 rw [e] at this;cases this
theorem Inv.bs (I:Inv X pins σ H s):∀b o,X.base.get? b=some o->s.heap.get? b=some o/\H b=none:=λb o e =>
 ⟨I.base.keep b o (I.ok.bs b o e).1 (I.ok.bs b o e).2 (I.ok.nofr e) (I.ok.noex b o e),I.base.free b o (I.ok.bs b o e).1 (I.ok.bs b o e).2 (I.ok.noex b o e)⟩
def Inv.bk (I:Inv X pins σ H s):∀b o,X.base.get? b=some o->s.heap.get? b=some o:=λb o e=>(I.bs b o e).1
theorem Inv.mod (I:Inv X pins σ H s):Mod X.K X.mg X.base:=I.ok.mod
def Inv.kIn (I:Inv X pins σ H s):X.K.In s.heap:=I.ok.mod.kin.keeps I.bk
def Inv.fr (I:Inv X pins σ H s):∃m,Fr X.base X.env.locals s.heap m :=
 let ⟨m,hn,_⟩:=I.loc
 ⟨m,hn,I.bk,yW I.ok.bsz I.ok.above⟩
theorem Inv.lt (I:Inv X pins σ H s):X.env.locals<s.heap.objs.size:=let ⟨_,hn,_⟩:=I.loc;hn.lt
def Inv.sz (I:Inv X pins σ H s):X.s₀.heap.objs.size<=s.heap.objs.size:=yW I.ok.above (Nat.le_of_lt I.lt)
def Inv.nofs (I:Inv X pins σ H s) {a:Addr}(h:s.heap.objs.size<=a):a∉X.fs:=λhb=>by
 obtain ⟨_,o,ho,_⟩:=I.ok.funs.mem hb
 exact absurd (yY (yb ho) (yW I.sz h)) (Nat.lt_irrefl _)
def Inv.cne (I:Inv X pins σ H s):∀x c,X.env.cells.lookup x=some c->c≠X.env.locals:=λx c e z=>by
 obtain ⟨v,o,ho,hd⟩:=I.cell x c e
 obtain ⟨m,⟨o',es,ep,ho',aW,_⟩,_⟩:=I.loc
 rw [z,ho'] at ho;cases ho;rw [aW] at hd;cases hd
theorem Inv.funs (I:Inv X pins σ H s):s.heap.FunFrames X.base X.outer:=by
 have all:∀(l:List Env),(∀b∈cg l,b∈X.fs)->X.s₀.heap.FunFrames X.base l->s.heap.FunFrames X.base l:=by
  intro l
  induction l with
  |nil=>intro _ _;trivial
  |cons env r ih =>
   intro hs hl
   obtain ⟨hk,⟨L,o,hf,hn,ho,hd⟩,hr⟩:=hl
   have hL:L∈X.fs:=hs L (by unfold cg;rw [List.filterMap_cons,hf];exact zY)
   obtain ⟨sl,e⟩:=I.base.slot L o ho (I.ok.frf L hL) hL λz=>I.ok.exfs L z hL
   exact ⟨hk,⟨L,_,hf,hn,e,hd⟩,ih (λb hb=>hs b (by unfold cg;rw [List.filterMap_cons,hf];exact yd _ hb)) hr⟩
 exact all X.outer (λ_ hb=>hb) I.ok.funs
theorem Inv.stack (I:Inv X pins σ H s):s.heap.FunFrames X.base X.stack:=by
 rcases I.ok.stk with e|⟨e,hf⟩
 ·rw [e];exact I.funs
 ·rw [e]
  obtain ⟨m,hn,_⟩:=I.loc
  refine .cons (by rw [I.ok.kind];decide) hf hn ?_ I.funs
  exact Heap.get?_none_of_le (yW I.ok.bsz I.ok.above)
def Inv.stkSub (I:Inv X pins σ H s):∀b∈cg X.stack,b∈X.env.locals::X.fs:=λb hb=>by
 rcases I.ok.stk with e|⟨e,hf⟩
 ·rw [e] at hb;exact yd _ hb
 ·rw [e] at hb
  unfold cg at hb
  rw [List.filterMap_cons,hf] at hb
  exact hb
def Inv.stkFree (I:Inv X pins σ H s):∀b∈cg X.stack,H b=none:=λb hb=>by
 rcases yn.mp (I.stkSub b hb) with e|hb
 ·rw [e];exact I.free
 ·obtain ⟨_,o,ho,_⟩:=I.ok.funs.mem hb
  exact I.base.free b o ho (I.ok.frf b hb) λz=>I.ok.exfs b z hb
def Inv.step {g':Array GenState}{t':Nat}{d':Drawn}{ch:Ae}(I:Inv X pins σ H s)
  (fg:∀b∈ch,(b∈X.ex\/X.s₀.heap.objs.size<=b)/\b≠X.env.locals/\(∀x c,X.env.cells.lookup x=some c->c≠b)/\∀p∈X.pn++pins,p.1≠b)
  (keep:∀b o,b≠X.env.locals->b∉X.fs->b∉ch->s.heap.get? b=some o->H b=none->h'.get? b=some o)
  (slot:∀b o,b≠X.env.locals->b∈X.fs->b∉ch->s.heap.get? b=some o->H b=none->∃sl,h'.get? b=some { o with slots:=sl }) (free:∀b o,b∉ch->s.heap.get? b=some o->H b=none->H' b=none)
  (there:∀b o,b∉ch->s.heap.get? b=some o->∃o',h'.get? b=some o')
  (tups:∀b xs,H b=some (.tup xs)->H' b=some (.tup xs)) (frzs:∀b o u,H b=some (.frz o u)->H' b=some (.frz o u)) (tbls:∀b ps,H b=some (.tbl ps)->∃more,H' b=some (.tbl (ps++more)))
  (ns:∀m,s.heap.Ns X.env.locals m->h'.Ns X.env.locals m) (hok:bI X.prog X.w H' h') (hg:AllBare g') :
  Inv X pins σ H' { s with heap:=h',gens:=g',drawn:=d',toks:=t' }:=by
 have uN:∀b o,X.s₀.heap.get? b=some o->b≠X.env.locals:=λb o e=>yB (yY (yb e) I.ok.above)
 have fh:∀b o,X.s₀.heap.get? b=some o->b∉X.ex->b∉ch:=λb o e hx hb=>by
  rcases (fg b hb).1 with z|z
  ·exact hx z
  ·exact absurd (yY (yb e) z) (Nat.lt_irrefl _)
 have cellK:∀x c,X.env.cells.lookup x=some c->∀v,s.heap.IsCell c v->h'.IsCell c v:=λx c e v ⟨o,ho,hd⟩=>by
  have lU:c∉ch:=λz=>(fg c z).2.2.1 x c e rfl
  by_cases hc:c∈X.fs
  ·obtain ⟨sl,q⟩:=slot c o (I.cne x c e) hc lU ho (I.freeC x c e)
   exact ⟨_,q,hd⟩
  ·exact ⟨o,keep c o (I.cne x c e) hc lU ho (I.freeC x c e),hd⟩
 refine ⟨I.ok,I.os,hg,⟨λb o e n hb hx=>?_,λb o e n hb hx=>?_,λb o e n hx=>?_,λb o e hx=>?_,λb xs e=>tups b xs (I.base.tups b xs e),λb o xs e=>frzs b o xs (I.base.frzs b o xs e),λb ps e=>?_⟩,?_,λx c e=>?_,?_,λx c e=>?_,λp hp=>?_,hok,I.len⟩
 ·exact keep b o (uN b o e) hb (fh b o e hx) (I.base.keep b o e n hb hx) (I.base.free b o e n hx)
 ·obtain ⟨sl,e1⟩:=I.base.slot b o e n hb hx
  obtain ⟨uO,e2⟩:=slot b _ (uN b o e) hb (fh b o e hx) e1 (I.base.free b o e n hx)
  exact ⟨uO,e2⟩
 ·obtain ⟨o',e1⟩:=I.base.there b o e hx
  exact free b o' (fh b o e hx) e1 (I.base.free b o e n hx)
 ·obtain ⟨o',e1⟩:=I.base.there b o e hx
  exact there b o' (fh b o e hx) e1
 ·obtain ⟨m1,e1⟩:=I.base.tbls b ps e
  obtain ⟨m2,e2⟩:=tbls b _ e1
  exact ⟨m1++m2,by rw [e2,Array.append_assoc]⟩
 ·obtain ⟨m,hn,hl⟩:=I.loc
  refine ⟨m,ns m hn,λi x v e1 e2 e3=>?_⟩
  obtain ⟨u,r,l⟩:=hl i x v e1 e2 e3
  refine ⟨u,r,?_⟩
  rcases l with l|⟨k,c,e,z⟩
  ·exact .inl l
  ·exact .inr ⟨k,c,e,cellK x c e _ z⟩
 ·obtain ⟨v,z⟩:=I.cell x c e
  exact ⟨v,cellK x c e v z⟩
 ·obtain ⟨m,⟨o,_,_,ho,_⟩,_⟩:=I.loc
  exact free _ o (λz=>(fg _ z).2.1 rfl) ho I.free
 ·obtain ⟨v,o,ho,hd⟩:=I.cell x c e
  exact free c o (λz=>(fg c z).2.2.1 x c e rfl) ho (I.freeC x c e)
 ·obtain ⟨e,n,ne,nf,d⟩:=I.pin p hp
  have lU:p.1∉ch:=λz=>(fg p.1 z).2.2.2 p hp rfl
  exact ⟨keep p.1 p.2 ne nf lU e n,free p.1 p.2 lU e n,ne,nf,d⟩
def Inv.un {t':Nat}(I:Inv X pins σ H s) (u:Un X.fs [] H H' s.heap h') (hok:bI X.prog X.w H' h'):Inv X pins σ H' { s with heap:=h',toks:=t' }:=by
 obtain ⟨m,⟨o,es,ep,ho,r⟩,_⟩:=id I.loc
 obtain ⟨sl,hL⟩:=u.any ho I.free (by simp)
 exact I.step (g':=s.gens) (d':=s.drawn) (ch:=[]) (λ_ z=>nomatch z) (λb o _ hb _ e n=>u.keep b o e n hb (by simp)) (λb o _ hb _ e n=>u.slot b o e n hb (by simp)) (λb o _ e n=>u.free b o e n (by simp)) (λb o _ e=>u.there b o e (by simp)) u.tups u.frzs u.tbls (λm' hm=>by
  obtain ⟨o',nM,kN,ho',r'⟩:=hm
  rw [ho] at ho';cases ho'
  exact ⟨_,nM,kN,hL,r'⟩) hok I.bare
def Inv.call {g':Array GenState}{t':Nat}{d':Drawn}{ch:Ae}(I:Inv X pins σ H s) (u:Un (cg X.stack) ch H H' s.heap h') (hok:bI X.prog X.w H' h') (hg:AllBare g')
  (fg:∀b∈ch,(b∈X.ex\/X.s₀.heap.objs.size<=b)/\b≠X.env.locals/\(∀x c,X.env.cells.lookup x=some c->c≠b)/\∀p∈X.pn++pins,p.1≠b) :
  Inv X pins σ H' { s with heap:=h',gens:=g',drawn:=d',toks:=t' }:=by
 obtain ⟨m,⟨o,es,ep,ho,r⟩,_⟩:=id I.loc
 obtain ⟨sl,hL⟩:=u.any ho I.free λz=>(fg _ z).2.1 rfl
 exact I.step (ch:=ch) fg (λb o hL hb hc e n=>u.keep b o e n (λz=>(yn.mp (I.stkSub b z)).elim hL hb) hc) (λb o _ _ hc e n=>u.any e n hc) (λb o hc e n=>u.free b o e n hc) (λb o hc e=>u.there b o e hc) u.tups u.frzs u.tbls (λm' hm=>by
  obtain ⟨o',nM,kN,ho',r'⟩:=hm
  rw [ho] at ho';cases ho'
  exact ⟨_,nM,kN,hL,r'⟩) hok hg
def Inv.turned {t':Nat}{it:Addr}(I:Inv X pins σ H s) (k:∀b o,b≠it->s.heap.get? b=some o->h'.get? b=some o) (hn:H it=none) (hL:it≠X.env.locals)
  (h1:it∈X.ex\/X.s₀.heap.objs.size<=it) (h2:∀x c,X.env.cells.lookup x=some c->c≠it) (h3:∀p∈X.pn++pins,p.1≠it):Inv X pins σ H { s with heap:=h',toks:=t' }:=by
 have uP:∀b u,H b=some u->b≠it:=λb u e z=>by rw [z,hn] at e;cases e
 refine I.step (g':=s.gens) (d':=s.drawn) (ch:=[it]) (λb hb=>?_) (λb o _ _ hc e _=>k b o (λz=>hc (by simp [z])) e) (λb o _ _ hc e _=>⟨o.slots,k b o (λz=>hc (by simp [z])) e⟩) (λ_ _ _ _ n=>n)
  (λb o hc e=>⟨o,k b o (λz=>hc (by simp [z])) e⟩) (λ_ _ e=>e) (λ_ _ _ e=>e) (λb ps e=>⟨#[],by rw [e];simp⟩) (λm hm=>?_) (λb u e=>?_) I.bare
 ·have e:b=it:=by simpa using hb
  subst e
  exact ⟨h1,hL,h2,h3⟩
 ·obtain ⟨o,es,ep,ho,r⟩:=hm
  exact ⟨o,es,ep,k _ o (y0 hL) ho,r⟩
 ·refine (I.hok b u e).stay (λc v hc q=>k c v ?_ q) (λ_ q=>q) λ_ _ q=>q
  rcases hc with z|z
  ·rw [z];exact uP b u e
  ·exact uP c _ z
def Inv.tok (I:Inv X pins σ H s) (t:Nat):Inv X pins σ H { s with toks:=t }:=I.un (h':=s.heap) (t':=t) Un.refl I.hok
theorem Inv.kept {t':Nat}(I:Inv X pins σ H s) (k:∀b u,s.heap.get? b=some u->h'.get? b=some u):Inv X pins σ H { s with heap:=h',toks:=t' }:=I.un (Un.kept k) (I.hok.kept k)
theorem Inv.laid {a:Addr}{o:HO}{t':Nat}(I:Inv X pins σ H s) (k:∀b u,s.heap.get? b=some u->h'.get? b=some u) (hp:s.heap.objs.size<=a) (new:aU X.prog X.w (upd H a o) h' a o) :
  Inv X pins σ (upd H a o) { s with heap:=h',toks:=t' }:=I.un (Un.laid k hp (I.hok.fresh hp)) (I.hok.laid k hp new)
theorem Inv.write {x e:Addr}{o:HO}{t':Nat}(I:Inv X pins σ H s) (mu:kL (H x)) (he:e=x\/H e=some (.own x)) (k:∀b u,b≠e->s.heap.get? b=some u->h'.get? b=some u) (kM:∃u,h'.get? e=some u)
  (new:aU X.prog X.w (upd H x o) h' x o):Inv X pins σ (upd H x o) { s with heap:=h',toks:=t' }:=I.un (Un.write mu he k kM) (I.hok.write mu he k kM new)
def Inv.weak {σ':List (Option V)}(I:Inv X pins σ H s) (hl:σ'.length=σ.length) (w:∀(i:Nat) v,σ'[i]?=some (some v)->σ[i]?=some (some v)):Inv X pins σ' H s :=
 ⟨I.ok,I.os,I.bare,I.base,let ⟨m,hn,c4⟩:=I.loc;⟨m,hn,λi x v e1 e2 e3=>c4 i x v e1 (w i v e2) e3⟩,I.cell,I.free,I.freeC,I.pin,I.hok,hl.trans I.len⟩
def Inv.pins_of {pins':Ac}(I:Inv X pins σ H s) (h:∀p∈pins',s.heap.get? p.1=some p.2/\H p.1=none/\p.1≠X.env.locals/\p.1∉X.fs/\∀v,p.2.data ≠ .cell v):Inv X pins' σ H s :=
 ⟨I.ok,I.os,I.bare,I.base,I.loc,I.cell,I.free,I.freeC,λp hp=>(j2.mp hp).elim (λz=>I.pin p (kI _ z)) (h p),I.hok,I.len⟩
def qo {N:Ad}(hN:N.Nodup) {i j:Nat}{x:Str}(a:N[i]?=some x) (b:N[j]?=some x):i=j:=by
 obtain ⟨h1,e1⟩:=yN.mp a
 obtain ⟨h2,e2⟩:=yN.mp b
 exact (List.getElem_inj hN).mp (e1.trans e2.symm)
def En {M:Model}{A:Around}{E:Aa}{i:Nat}{x:Str}{v:V}{u:Value}{Q:Unit->Shared->Prop}(I:Inv X pins σ H s) (hN:X.N.Nodup) (hi:X.N[i]?=some x) (hx:Loc X.env.scope x) (r:RelV v u)
  (h:∀s',Inv X pins (σ.set i (some v)) H s'->(∃a,Heap.SameBut a s.heap s'.heap/\(a=X.env.locals\/X.env.cells.lookup x=some a))->Q () s') (hf:X.fn x=true\/X.env.scope.names.lookup x=some .local:=by first|exact .inl rfl|exact .inr rfl|assumption):wpAny M A (storeName X.env x u) Q E s:=by
 obtain ⟨m,hn,hl⟩:=id I.loc
 have dG:(X.env.scope.kind == .class||(X.env.scope.kind == .module&&X.env.locals != X.env.globals))=false:=by rw [I.ok.kind];rfl
 have ay:i<σ.length:=by rw [I.len];exact (yN.mp hi).1
 have cne:=I.cne
 have tracked:∀{a:Addr} {h':Heap},(∃o,s.heap.get? a=some o/\H a=none)->Heap.SameBut a s.heap h'->bI X.prog X.w H h':=λ{a h'} ha hs b ob e=>by
  obtain ⟨_,_,fK⟩:=ha
  refine (I.hok b ob e).stay (λc w' hc q=>(hs.2 c ?_).trans q) (λ_ q=>q) λ_ _ q=>q
  rintro rfl
  rcases hc with rfl|hc
  ·rw [fK] at e;cases e
  ·rw [fK] at hc;cases hc
 rcases hx with hk|hk
 ·refine wpAny_storeName_local hk hn (λh' cE hs=>?_) dG
  obtain ⟨oL,_,_,fj,_⟩:=id hn
  refine h _ ⟨I.ok,I.os,I.bare,⟨λb o e n hb hx=>?_,λb o e n hb hx=>?_,I.base.free,λb o e hx=>?_,I.base.tups,I.base.frzs,I.base.tbls⟩,⟨_,cE,λj y v' e1 e2 e3=>?_⟩,λy c e=>?_,I.free,I.freeC,λp hp=>?_,tracked ⟨oL,fj,I.free⟩ hs,by simpa using I.len⟩ ⟨_,hs,.inl rfl⟩
  ·exact (hs.2 b (yB (yY (yb e) I.ok.above))).trans (I.base.keep b o e n hb hx)
  ·obtain ⟨sl,e1⟩:=I.base.slot b o e n hb hx
   exact ⟨sl,(hs.2 b (yB (yY (yb e) I.ok.above))).trans e1⟩
  ·obtain ⟨o',e1⟩:=I.base.there b o e hx
   exact ⟨o',(hs.2 b (yB (yY (yb e) I.ok.above))).trans e1⟩
  ·by_cases hj:j=i
   ·subst hj
    rw [hi] at e1;cases e1
    rw [jr ay] at e2
    cases e2
    exact ⟨u,r,.inl ⟨hk,by simp⟩⟩
   ·rw [yI (y0 hj)] at e2
    obtain ⟨u',r',q⟩:=hl j y v' e1 e2 e3
    refine ⟨u',r',?_⟩
    rcases q with ⟨k,e⟩|⟨k,c,e,z⟩
    ·refine .inl ⟨k,?_⟩
     have:y≠x:=λe=>hj (qo hN e1 (e▸hi))
     simp [this,e]
    ·exact .inr ⟨k,c,e,z.sameBut hs (cne y c e)⟩
  ·obtain ⟨w',z⟩:=I.cell y c e
   exact ⟨w',z.sameBut hs (cne y c e)⟩
  ·obtain ⟨e,n,ne,nf,d⟩:=I.pin p hp
   exact ⟨(hs.2 p.1 ne).trans e,n,ne,nf,d⟩
 ·have qp:X.fn x=true:=by
   rcases hf with z|z
   ·exact z
   ·rw [z] at hk;cases hk
  obtain ⟨c,hc⟩:=I.ok.has x (.inl hk)
  obtain ⟨w',z⟩:=I.cell x c hc
  refine wpAny_storeName_cell I.ok.kind hk hc z (λh' eh hs=>?_)
  obtain ⟨oc,uQ,uR⟩:=id z
  refine h { s with heap:=h' } ⟨I.ok,I.os,I.bare,⟨λb o e n hb hx=>?_,λb o e n hb hx=>?_,I.base.free,λb o e hx=>?_,I.base.tups,I.base.frzs,I.base.tbls⟩,⟨m,hn.sameBut hs (y0 (cne x c hc)),λj y v' e1 e2 e3=>?_⟩,λy c' e=>?_,I.free,I.freeC,λp hp=>?_,tracked ⟨oc,uQ,I.freeC x c hc⟩ hs,by simpa using I.len⟩ ⟨c,hs,.inr hc⟩
  ·exact (hs.2 b (yB (yY (yb e) (I.ok.cab x c qp hc)))).trans (I.base.keep b o e n hb hx)
  ·obtain ⟨sl,e1⟩:=I.base.slot b o e n hb hx
   exact ⟨sl,(hs.2 b (yB (yY (yb e) (I.ok.cab x c qp hc)))).trans e1⟩
  ·obtain ⟨o',e1⟩:=I.base.there b o e hx
   exact ⟨o',(hs.2 b (yB (yY (yb e) (I.ok.cab x c qp hc)))).trans e1⟩
  ·by_cases hj:j=i
   ·subst hj
    rw [hi] at e1;cases e1
    rw [jr ay] at e2
    cases e2
    exact ⟨u,r,.inr ⟨.inl hk,c,hc,eh⟩⟩
   ·rw [yI (y0 hj)] at e2
    obtain ⟨u',r',q⟩:=hl j y v' e1 e2 e3
    refine ⟨u',r',?_⟩
    rcases q with q|⟨k,c',e,z'⟩
    ·exact .inl q
    ·refine .inr ⟨k,c',e,z'.sameBut hs ?_⟩
     rintro rfl
     exact hj (qo hN e1 (I.ok.inj _ _ _ e hc▸hi))
  ·by_cases gn:c'=c
   ·subst gn;exact ⟨_,eh⟩
   ·obtain ⟨w2,z2⟩:=I.cell y c' e
    exact ⟨w2,z2.sameBut hs gn⟩
  ·obtain ⟨e,n,ne,nf,d⟩:=I.pin p hp
   refine ⟨(hs.2 p.1 ?_).trans e,n,ne,nf,d⟩
   intro q
   rw [q,uQ] at e
   have q':oc=p.2:=Option.some.inj e
   exact d w' (by rw [<-q'];exact uR)
def kO {M:Model}{A:Around}{E:Aa}{i:Nat}{x:Str}{v:V}{u:Value}{Q:Unit->Shared->Prop}(I:Inv X pins σ H s) (hN:X.N.Nodup) (hi:X.N[i]?=some x) (hx:Loc X.env.scope x) (r:RelV v u)
  (h:∀s',Inv X pins (σ.set i (some v)) H s'->Q () s') (hf:X.fn x=true\/X.env.scope.names.lookup x=some .local:=by first|exact .inl rfl|exact .inr rfl|assumption):wpAny M A (storeName X.env x u) Q E s :=
 En I hN hi hx r (λs' I' _=>h s' I') hf
def Inv.call' {s':Shared}{ch:Ae}(I:Inv X pins σ H s) (ho:s'.os=s.os) (u:Un (cg X.stack) ch H H' s.heap s'.heap) (hok:bI X.prog X.w H' s'.heap) (hg:AllBare s'.gens)
  (fg:∀b∈ch,(b∈X.ex\/X.s₀.heap.objs.size<=b)/\b≠X.env.locals/\(∀x c,X.env.cells.lookup x=some c->c≠b)/\∀p∈X.pn++pins,p.1≠b):Inv X pins σ H' s':=by
 obtain ⟨h',g',d',t',o'⟩:=s'
 have e:o'=s.os:=ho
 subst e
 exact I.call (g':=g') (t':=t') (d':=d') u hok hg fg
end
abbrev XK:=Value->Option Addr->Hp->Prop
abbrev St:=List (Option V)
abbrev VK:=V->Hp->Prop
abbrev TE:=St->Hp->VK->Prop
abbrev TT:=St->Hp->(Bool->Hp->Prop)->Prop
abbrev TA:=St->Hp->(List V->Hp->Prop)->Prop
structure Ends where
 nx:St->Hp->Prop
 rt:VK
 bk:St->Hp->Prop:=λ_ _=>False
 ct:St->Hp->Prop:=λ_ _=>False
abbrev TS:=Ends->St->Hp->Prop
def EP (X:Cx) (pins:Ac) (σ:St) (Q:VK) (u:Value) (s':Shared):Prop:=∃v H',Inv X pins σ H' s'/\RelV v u/\Q v H'
def TP (X:Cx) (pins:Ac) (σ:St) (Q:Bool->Hp->Prop) (b:Bool) (s':Shared):Prop:=∃H',Inv X pins σ H' s'/\Q b H'
def AP (X:Cx) (pins:Ac) (σ:St) (Q:List V->Hp->Prop) (us:Af) (s':Shared):Prop:=∃vs H',Inv X pins σ H' s'/\Vals vs us/\Q vs H'
def SP (X:Cx) (pins:Ac) (D:Ends) (f:Flow) (s':Shared):Prop :=
 match f with
 |.next=>∃σ' H',Inv X pins σ' H' s'/\D.nx σ' H'
 |.brk=>∃σ' H',Inv X pins σ' H' s'/\D.bk σ' H'
 |.cont=>∃σ' H',Inv X pins σ' H' s'/\D.ct σ' H'
 |.ret u=>∃v σ' H',Inv X pins σ' H' s'/\RelV v u/\D.rt v H'
def PE (X:Cx) (e:Expr) (t:TE):Prop :=
 ∀(pins:Ac) (s:Shared) (σ:St) (H:Hp) (Q:VK),Inv X pins σ H s->t σ H Q->wpAny (model X.prog X.w) X.A (eval e X.env) (EP X pins σ Q) X.xe s
def PT (X:Cx) (e:Expr) (t:TT):Prop :=
 ∀(pins:Ac) (s:Shared) (σ:St) (H:Hp) (Q:Bool->Hp->Prop),Inv X pins σ H s->t σ H Q->wpAny (model X.prog X.w) X.A (isTrue e X.env (eval e X.env)) (TP X pins σ Q) X.xe s
def PW (X:Cx) (e:Expr) (t:TT):Prop :=
 ∀(whole:Sem Value) (pins:Ac) (s:Shared) (σ:St) (H:Hp) (Q:Bool->Hp->Prop),Inv X pins σ H s->t σ H Q->wpAny (model X.prog X.w) X.A (isTrue e X.env whole) (TP X pins σ Q) X.xe s
def PW.pt {X:Cx}{e:Expr}{t:TT}(h:PW X e t):PT X e t:=h _
def PA (X:Cx) (es:List Expr) (t:TA):Prop :=
 ∀(pos:Pos) (pins:Ac) (s:Shared) (σ:St) (H:Hp) (Q:List V->Hp->Prop),Inv X pins σ H s->t σ H Q->wpAny (model X.prog X.w) X.A (spliced (backTo pos (starEach es X.env))) (AP X pins σ Q) X.xe s
def PS (X:Cx) (st:Stmt) (t:TS):Prop :=
 ∀(pins:Ac) (s:Shared) (σ:St) (H:Hp) (D:Ends),Inv X pins σ H s->t D σ H->wpAny (model X.prog X.w) X.A (exec st X.env) (SP X pins D) X.xe s
def b6 (X:Cx) (st:List Stmt) (t:TS):Prop :=
 ∀(pins:Ac) (s:Shared) (σ:St) (H:Hp) (D:Ends),Inv X pins σ H s->t D σ H->wpAny (model X.prog X.w) X.A (execs st X.env) (SP X pins D) X.xe s
def aO {U:Type}{t:Sem U}{Q Q':U->Shared->Prop}{M:Model}{A:Around}{E:Aa}{s:Shared}(h:wpAny M A t Q E s) (hQ:∀a s,Q a s->Q' a s):wpAny M A t Q' E s:=yM h hQ λ_ _ x=>x
section
variable {X:Cx}
def Eo (i:Nat):TE:=fun σ H Q=>∃v,σ[i]?=some (some v)/\Q v H
def tC (v:V):TE:=λ_ H Q=>Q v H
def Ep {i:Nat} {x:Str} {pos:Pos} (hN:X.N[i]?=some x) (hv:qm X.env.scope x) (hd:(x==("__debug__" : Str))=false:=by decide) (dU:(x==("__classdict__" : Str))=false:=by decide):PE X (.Name x pos) (Eo i):=by
 intro pins s σ H Q I h
 obtain ⟨v,e,h⟩:=h
 obtain ⟨m,hn,hl⟩:=I.loc
 obtain ⟨u,r,l⟩:=hl i x v hN e hv
 have fin:EP X pins σ Q u s:=⟨v,H,I,r,h⟩
 rcases l with ⟨hk,hm⟩|⟨hk,c,hc,dW⟩
 ·exact wpAny_Name (wpAny_loadName_local I.ok.kind hk hn hm fin) hd
 ·rcases hk with hk|hk
  ·exact wpAny_Name (wpAny_loadName_cell I.ok.kind hk hc dW fin) hd
  ·exact wpAny_Name (wpAny_loadName_free I.ok.kind hk hc dW fin dU) hd
def Es {i j pos}:PE X (.Constant (.int i) j pos) (tC (.int i)):=λ_ _ _ H _ I h=>wpAny_Constant_int ⟨.int i,H,I.tok _,⟨_,rfl⟩,h⟩
def Et {b j pos}:PE X (.Constant (.bool b) j pos) (tC (.bl b)):=λ_ _ _ H _ I h=>Constant_bool ⟨.bl b,H,I,rfl,h⟩
def Eu {j pos}:PE X (.Constant .none j pos) (tC .non):=λ_ _ _ H _ I h=>Constant_none ⟨.non,H,I,rfl,h⟩
def Ew {x j pos}:PE X (.Constant (.str x) j pos) (tC (.str x)):=λ_ _ _ H _ I h=>Calls.Constant_str ⟨.str x,H,I.tok _,⟨_,rfl⟩,h⟩
def Gl (X:Cx) (x:Str):Prop:=X.env.kindOf x=some .globalImplicit
def gp {E:Aa}{pins:Ac}{s:Shared}{σ:St}{H:Hp}{x:Str}{u:Value}{pos:Pos}{Q:Aa}(I:Inv X pins σ H s) (hg:Gl X x) (hm:X.mg x=some u) (h:Q u s)
  (hd:(x==("__debug__" : Str))=false:=by decide):wpAny (model X.prog X.w) X.A (eval (.Name x pos) X.env) Q E s :=
 Calls.Name_function_global I.ok.kind hg (Calls.loadGlobal_global (by rw [I.ok.glob];exact I.mod.glob.keeps I.bk) hm h) hd
def lV {E:Aa}{pins:Ac}{s:Shared}{σ:St}{H:Hp}{x:Str}{u:Value}{pos:Pos}{Q:Aa}(I:Inv X pins σ H s) (hg:Gl X x) (hm:X.mg x=none) (hv:bootBuiltins x=some u) (h:Q u s)
  (hn:x ≠ "__name__" := by decide) (hd:(x==("__debug__" : Str))=false:=by decide):wpAny (model X.prog X.w) X.A (eval (.Name x pos) X.env) Q E s:=by
 obtain ⟨mb,h1,h2⟩:=I.mod.blt
 exact Calls.Name_function_global I.ok.kind hg (Calls.loadGlobal_builtin (by rw [I.ok.glob];exact I.mod.glob.keeps I.bk) hm (by rw [I.ok.blt];exact h1.keeps I.bk) ((h2 x hn).trans hv) h) hd
def Ex {x:Str} {v:V} {u:Value} {pos:Pos} (hg:Gl X x) (hm:X.mg x=some u) (r:RelV v u) (hd:(x==("__debug__" : Str))=false:=by decide):PE X (.Name x pos) (tC v) :=
 λ_ _ _ H _ I h=>gp I hg hm ⟨v,H,I,r,h⟩ hd
def Ey {x:Str} {v:V} {u:Value} {pos:Pos} (hg:Gl X x) (hm:X.mg x=none) (hv:bootBuiltins x=some u) (r:RelV v u) (hn:x ≠ "__name__" := by decide) (hd:(x==("__debug__" : Str))=false:=by decide):PE X (.Name x pos) (tC v) :=
 λ_ _ _ H _ I h=>lV I hg hm hv ⟨v,H,I,r,h⟩ hn hd
variable {a b:Expr} {ta tb:TE} {pos:Pos}
def tB (t:TE):TT:=fun σ H Q=>t σ H λx H1=>∃c,x=.bl c/\Q c H1
def Ez {e:Expr}{t:TE}(h:PE X e t) (he:∀whole,isTrue e X.env whole=(do let v <-whole;standAt e.pos;holding [v] (truthy v)):=by intro _;rfl):PT X e (tB t):=by
 intro pins s σ H Q I hw
 refine isTrue_plain (aO (h pins s σ H _ I hw) λv s1 ⟨x,H1,I1,r1,q1⟩=>?_) (he _)
 obtain ⟨d,rfl,q⟩:=q1
 cases r1
 exact hI ⟨H1,I1,q⟩
variable {tA nO:TT} {rest:List Expr}
def EA (t u:TT):TT:=fun σ H Q=>t σ H λc H1=>if c=true then u σ H1 Q else Q false H1
def EB (t u:TT):TT:=fun σ H Q=>t σ H λc H1=>if c=true then Q true H1 else u σ H1 Q
def EC (t:TT):TT:=fun σ H Q=>t σ H λc H1=>Q (!c) H1
def ED (ha:PT X a tA):PW X (.BoolOp .And [a] pos) tA:=by
 intro wh pins s σ H Q I h
 refine isTrue_and (aO (ha pins s σ H Q I h) λc s1 e=>?_)
 cases c with
 |true=>exact isTrue_and_nil e
 |false=>exact e
def EE (ha:PT X a tA):PW X (.BoolOp .Or [a] pos) tA:=by
 intro wh pins s σ H Q I h
 refine isTrue_or (aO (ha pins s σ H Q I h) λc s1 e=>?_)
 cases c with
 |false=>exact isTrue_or_nil e
 |true=>exact e
def EF (ha:PT X a tA) (hb:PW X (.BoolOp .And (b::rest) pos) nO):PW X (.BoolOp .And (a::b::rest) pos) (EA tA nO):=by
 intro wh pins s σ H Q I h
 refine isTrue_and (aO (ha pins s σ H _ I h) λc s1 ⟨H1,I1,q1⟩=>?_)
 cases c with
 |true=>exact hb wh pins s1 σ H1 Q I1 q1
 |false=>exact ⟨H1,I1,q1⟩
def EG (ha:PT X a tA) (hb:PW X (.BoolOp .Or (b::rest) pos) nO):PW X (.BoolOp .Or (a::b::rest) pos) (EB tA nO):=by
 intro wh pins s σ H Q I h
 refine isTrue_or (aO (ha pins s σ H _ I h) λc s1 ⟨H1,I1,q1⟩=>?_)
 cases c with
 |true=>exact ⟨H1,I1,q1⟩
 |false=>exact hb wh pins s1 σ H1 Q I1 q1
def EH (ha:PT X a tA):PT X (.UnaryOp .Not a pos) (EC tA):=by
 intro pins s σ H Q I h
 exact isTrue_not (ha pins s σ H (λc H1=>Q (!c) H1) I h)
def EI (ta tb:TE):TE:=fun σ H Q=>ta σ H λx H1=>∃c,x=.bl c/\if c=true then tb σ H1 Q else Q (.bl false) H1
def EJ {op}{t:TE}(h:PE X a t):PE X (.BoolOp op [a] pos) t:=λpins s σ H Q I hw=>BoolOp_one (h pins s σ H Q I hw)
def EK (ha:PE X a ta) (hb:PE X (.BoolOp .And (b::rest) pos) tb):PE X (.BoolOp .And (a::b::rest) pos) (EI ta tb):=by
 intro pins s σ H Q I h
 refine BoolOp_and (aO (ha pins s σ H _ I h) λv s1 ⟨x,H1,I1,r1,q1⟩=>?_)
 obtain ⟨c,rfl,q1⟩:=q1
 cases r1
 refine hI ?_
 cases c with
 |true=>exact hb pins s1 σ H1 Q I1 q1
 |false=>exact ⟨.bl false,H1,I1,rfl,q1⟩
def EL (t:TT) (ta tb:TE):TE:=fun σ H Q=>t σ H λc H1=>if c=true then ta σ H1 Q else tb σ H1 Q
def EM {c:Expr}(hc:PT X c tA) (ha:PE X a ta) (hb:PE X b tb):PE X (.IfExp c a b pos) (EL tA ta tb):=by
 intro pins s σ H Q I h
 refine wpAny_IfExp (aO (hc pins s σ H _ I h) λd s1 ⟨H1,I1,q1⟩=>?_)
 cases d with
 |true=>exact ha pins s1 σ H1 Q I1 q1
 |false=>exact hb pins s1 σ H1 Q I1 q1
end
def a_ (K:PySem.W.Frag) (H:Hp) (a:Addr) (xs:List V):Prop :=
 Rd H a (.lst xs) \/
  ∃(o:Obj) (its:Array Value) (n:Nat),K.lookup a=some o/\o.cls=.type "list" /\ o.dict=none/\o.data=.seq its n/\its.size<=sizeLine/\Vals xs its.toList
def bK (K:PySem.W.Frag) (H:Hp) (a:Addr) (xs:List V):Prop :=
 Rd H a (.tup xs) \/
  ∃(o:Obj) (its:Array Value) (n:Nat),K.lookup a=some o/\o.cls=.type "tuple" /\ o.data=.seq its n/\its.size<=sizeLine/\Vals xs its.toList
def uS:Value->Option V
 |.none=>some .non
 |.bool b=>some (.bl b)
 |.int i _=>some (.int i)
 |.str x _=>some (.str x)
 |.bytes b _=>some (.byt b)
 |.float b _=>some (.flt b)
 |.ref a=>some (.ref a)
 |.type n=>some (.ty n)
 |_=>none
def RelV.abs {x:V}{u:Value}(r:RelV x u):uS u=some x:=by
 cases x with
 |non=>cases r;rfl
 |bl _=>cases r;rfl
 |int _=>obtain ⟨t,rfl⟩:=r;rfl
 |str _=>obtain ⟨t,rfl⟩:=r;rfl
 |byt _=>obtain ⟨t,rfl⟩:=r;rfl
 |flt _=>obtain ⟨t,rfl⟩:=r;rfl
 |ref _=>cases r;rfl
 |ty _=>cases r;rfl
theorem RelV.inj {x y:V}{u:Value}(r:RelV x u) (q:RelV y u):x=y:=Option.some.inj (r.abs.symm.trans q.abs)
theorem Vals.inj:∀{xs ys:List V}{us:Af},Vals xs us->Vals ys us->xs=ys
 |_,_,_,.nil,.nil=>rfl
 |_,_,_,.cons r t,.cons r' t'=>by rw [r.inj r',Vals.inj t t']
section
variable {X:Cx} {pins:Ac} {σ:St} {H:Hp} {s:Shared} {a:Addr} {xs ys:List V}
def a_.of {K:PySem.W.Frag}(h:H a=some (.lst xs)):a_ K H a xs:=.inl (.inl h)
def bK.of {K:PySem.W.Frag}(h:H a=some (.tup xs)):bK K H a xs:=.inl (.inl h)
def Inv.list (I:Inv X pins σ H s) (h:a_ X.K H a xs):∃its:Af,Vals xs its/\PlainL s.heap a its.toArray/\xs.length<=sizeLine:=by
 rcases h with h|⟨o,its,n,hk,hc,hd,hs,hz,r⟩
 ·obtain ⟨z,its,n,r,e⟩:=h.ok I.hok
  exact ⟨its,r,⟨_,n,e,rfl,rfl,rfl⟩,z⟩
 ·refine ⟨its.toList,r,⟨o,n,I.kIn a o hk,hc,hd,by simpa using hs⟩,?_⟩
  have e:=r.length
  simp only [Array.length_toList] at e
  omega
def Inv.tuple (I:Inv X pins σ H s) (h:bK X.K H a xs):∃its:Af,Vals xs its/\IsTup s.heap a its.toArray/\xs.length<=sizeLine:=by
 rcases h with h|⟨o,its,n,hk,hc,hs,hz,r⟩
 ·obtain ⟨z,its,r,p⟩:=h.ok I.hok
  exact ⟨its,r,p,z⟩
 ·refine ⟨its.toList,r,⟨o,I.kIn a o hk,hc,n,by simpa using hs⟩,?_⟩
  have e:=r.length
  simp only [Array.length_toList] at e
  omega
def Inv.list_inj (I:Inv X pins σ H s) (h:a_ X.K H a xs) (h':a_ X.K H a ys):xs=ys:=by
 obtain ⟨its,r,⟨o,n,e,_,_,d⟩,_⟩:=I.list h
 obtain ⟨its',r',⟨o',n',e',_,_,d'⟩,_⟩:=I.list h'
 rw [e] at e';cases e'
 rw [d] at d'
 injection d' with d1 _
 have:its=its':=by simpa using congrArg Array.toList d1
 subst this
 exact r.inj r'
def Inv.tuple_inj (I:Inv X pins σ H s) (h:bK X.K H a xs) (h':bK X.K H a ys):xs=ys:=by
 obtain ⟨its,r,⟨o,e,_,n,d⟩,_⟩:=I.tuple h
 obtain ⟨its',r',⟨o',e',_,n',d'⟩,_⟩:=I.tuple h'
 rw [e] at e';cases e'
 rw [d] at d'
 injection d' with d1 _
 have:its=its':=by simpa using congrArg Array.toList d1
 subst this
 exact r.inj r'
end
abbrev Cx.wish (X:Cx) (E:Aa):Cx:={ X with xe:=E }
abbrev Cx.nox (X:Cx):Cx:=X.wish λ_ _=>False
theorem Cx.Ok.wish {X:Cx}(ok:X.Ok) (E:Aa):(X.wish E).Ok :=
 ⟨ok.mod,ok.kind,ok.glob,ok.blt,ok.above,ok.inj,ok.has,ok.cab,ok.hd,ok.frames,ok.stk,ok.exf,ok.bs,ok.bsz,ok.noex,ok.exfs,ok.funs,ok.frf⟩
def Cx.Ok.unwish {X:Cx}{E:Aa}(ok:(X.wish E).Ok):X.Ok :=
 ⟨ok.mod,ok.kind,ok.glob,ok.blt,ok.above,ok.inj,ok.has,ok.cab,ok.hd,ok.frames,ok.stk,ok.exf,ok.bs,ok.bsz,ok.noex,ok.exfs,ok.funs,ok.frf⟩
section
variable {X:Cx} {pins:Ac} {σ:St} {H:Hp} {s:Shared} {E:Aa}
theorem Inv.wish (I:Inv X pins σ H s) (E:Aa):Inv (X.wish E) pins σ H s:=⟨I.ok.wish E,I.os,I.bare,I.base,I.loc,I.cell,I.free,I.freeC,I.pin,I.hok,I.len⟩
theorem Inv.unwish (I:Inv (X.wish E) pins σ H s):Inv X pins σ H s:=⟨I.ok.unwish,I.os,I.bare,I.base,I.loc,I.cell,I.free,I.freeC,I.pin,I.hok,I.len⟩
theorem SP.unwish {D:Ends}{f:Flow}{s':Shared}(h:SP (X.wish E) pins D f s'):SP X pins D f s':=by
 cases f with
 |next=>obtain ⟨σ',H',I,q⟩:=h;exact ⟨σ',H',I.unwish,q⟩
 |brk=>obtain ⟨σ',H',I,q⟩:=h;exact ⟨σ',H',I.unwish,q⟩
 |cont=>obtain ⟨σ',H',I,q⟩:=h;exact ⟨σ',H',I.unwish,q⟩
 |ret u=>obtain ⟨v,σ',H',I,r,q⟩:=h;exact ⟨v,σ',H',I.unwish,r,q⟩
theorem PE.nox {e:Expr}{t:TE}(h:PE X.nox e t):PE X e t:=λpins s σ H Q I hw =>
 yM (h pins s σ H Q (I.wish _) hw) (λ_ _ ⟨v,H',I',r,q⟩=>⟨v,H',I'.unwish,r,q⟩) λ_ _ z=>z.elim
end
section
variable {X:Cx} {st:Stmt} {rest:List Stmt} {t u:TS} {e:Expr} {te:TE} {pos:Pos}
def EN:TS:=λD σ H=>D.nx σ H
def EO (t u:TS):TS:=λD σ H=>t { D with nx:=u D } σ H
def ER:b6 X [] EN:=λ_ _ σ H _ I h=>wpAny_execs_nil ⟨σ,H,I,h⟩
def ES (h1:PS X st t) (h2:b6 X rest u):b6 X (st::rest) (EO t u):=by
 intro pins s σ H D I h
 refine wpAny_execs_cons (aO (h1 pins s σ H { D with nx:=u D } I h) λf s1 q=>?_)
 cases f with
 |next =>
  obtain ⟨σ',H',I',q⟩:=q
  exact h2 pins s1 σ' H' D I' q
 |ret v=>exact q
 |brk=>exact q
 |cont=>exact q
def EU (h1:PS X st t):b6 X [st] t:=by
 intro pins s σ H D I h
 refine wpAny_execs_cons (aO (h1 pins s σ H D I h) λf s1 q=>?_)
 cases f with
 |next=>exact wpAny_execs_nil q
 |ret v=>exact q
 |brk=>exact q
 |cont=>exact q
def Inv.quiet {pins:Ac}{σ:St}{H:Hp}{s:Shared}(I:Inv X pins σ H s):interactive X.env=false:=by simp [interactive,I.ok.kind]
def EV (te:TE):TS:=λD σ H=>te σ H λ_ H1=>D.nx σ H1
def EW (he:PE X e te) (hs:swapsWith e none pos.line X.env=pure false:=by rfl):PS X (.Expr e pos) (EV te):=by
 intro pins s σ H D I h
 exact wpAny_Expr_any (aO (he pins s σ H _ I h) λv s1 ⟨x,H1,I1,r1,q1⟩=>⟨σ,H1,I1,q1⟩) I.quiet hs
def EX (te:TE):TS:=λD σ H=>te σ H D.rt
def EY (he:PE X e te):PS X (.Return (some e) pos) (EX te):=by
 intro pins s σ H D I h
 exact wpAny_Return_some (aO (he pins s σ H _ I h) λv s1 ⟨x,H1,I1,r1,q1⟩=>⟨x,σ,H1,I1,r1,q1⟩)
def EZ (c:TT) (t u:TS):TS:=λD σ H=>c σ H λb H1=>if b=true then t D σ H1 else u D σ H1
def E1 {c:Expr}{a b:List Stmt}{tc:TT}(hc:PT X c tc) (ha:b6 X a t) (hb:b6 X b u):PS X (.If c a b pos) (EZ tc t u):=by
 intro pins s σ H D I h
 refine wpAny_If (aO (hc pins s σ H _ I h) λd s1 ⟨H1,I1,q1⟩=>?_)
 cases d with
 |true=>exact ha pins s1 σ H1 D I1 q1
 |false=>exact hb pins s1 σ H1 D I1 q1
def E2:TS:=λ_ _ _=>False
def E3 {c5:List Stmt}:b6 X c5 E2:=λ_ _ _ _ _ _ h=>h.elim
end
abbrev TG:=V->St->Hp->(St->Hp->Prop)->Prop
def PG (X:Cx) (target:Expr) (t:TG):Prop :=
 ∀(pins:Ac) (s:Shared) (σ:St) (H:Hp) (v:V) (u:Value) (Q:St->Hp->Prop),Inv X pins σ H s->RelV v u->t v σ H Q ->
  wpAny (model X.prog X.w) X.A (assign target X.env u) (λ_ s'=>∃σ' H',Inv X pins σ' H' s'/\Q σ' H') X.xe s
section
variable {X:Cx} {pos:Pos}
def kP (i:Nat):TG:=λv σ H Q=>Q (σ.set i (some v)) H
def qq {i:Nat}{x:Str}(hN:X.N.Nodup) (hi:X.N[i]?=some x) (hx:Loc X.env.scope x) (hf:X.fn x=true\/X.env.scope.names.lookup x=some .local:=by first|exact .inl rfl|exact .inr rfl|assumption):PG X (.Name x pos) (kP i):=by
 intro pins s σ H v u Q I r h
 exact wpAny_assign_Name (kO I hN hi hx r (λs' I'=>⟨_,H,I',h⟩) hf)
def E4 (te:TE) (g:TG):TS:=λD σ H=>te σ H λx H1=>g x σ H1 D.nx
def E5 {i:Nat}{x:Str}{e:Expr}{te:TE}{pos':Pos}(hN:X.N.Nodup) (hi:X.N[i]?=some x) (hx:Loc X.env.scope x) (he:PE X e te) (hs:swapsWith e (some (.Name x pos')) pos.line X.env=pure false:=by rfl) (hf:X.fn x=true\/X.env.scope.names.lookup x=some .local:=by first|exact .inl rfl|exact .inr rfl|assumption) :
  PS X (.Assign [.Name x pos'] e pos) (E4 te (kP i)):=by
 intro pins s σ H D I h
 refine wpAny_Assign_Name (aO (he pins s σ H _ I h) λv s1 ⟨y,H1,I1,r1,q1⟩=>?_) hs
 exact kO I1 hN hi hx r1 (λs2 I2=>⟨_,H1,I2,q1⟩) hf
def E8 (c:TT) (tb:TS):TS:=λD σ H=>∃W:Nat->St->Hp->Prop,(∃m,W m σ H)/\∀m σ H,W m σ H ->
 c σ H λb H1=>if b=true then ∃N:St->Hp->Prop,(∀σ' H',N σ' H'->∃m',m'<m/\W m' σ' H')/\tb { D with nx:=N,ct:=N,bk:=D.nx } σ H1 else D.nx σ H1
def E9 {c:Expr}{body:List Stmt}{tc:TT}{tb:TS}(hp:PassesOwn (model X.prog X.w) X.A X.env X.xe) (hc:PT X c tc) (hb:b6 X body tb):PS X (.While c body [] pos) (E8 tc tb):=by
 intro pins s σ H D I h
 obtain ⟨W,⟨m0,w0⟩,turn⟩:=h
 refine wpAny_While (codeAny_whileLoop (λn s'=>∃σ' H',Inv X pins σ' H' s'/\W n σ' H') ?_ m0 ⟨σ,H,I,w0⟩)
 rintro n s1 ⟨am,H1,I1,w1⟩
 refine wpAny_passesOwn hp (aO (hc pins s1 am H1 _ I1 (turn n am H1 w1)) λb s2 ⟨H2,I2,q2⟩=>?_)
 cases b with
 |true =>
  obtain ⟨N,hN,q2⟩:=q2
  rw [zj rfl]
  refine wpAny_passesOwn hp (aO (hb pins s2 am H2 _ I2 q2) λf s3 q3=>?_)
  cases f with
  |next =>
   obtain ⟨ao,H3,I3,n3⟩:=q3
   obtain ⟨m',hm,w3⟩:=hN ao H3 n3
   exact ⟨m',hm,ao,H3,I3,w3⟩
  |cont =>
   obtain ⟨ao,H3,I3,n3⟩:=q3
   obtain ⟨m',hm,w3⟩:=hN ao H3 n3
   exact ⟨m',hm,ao,H3,I3,w3⟩
  |brk=>exact q3
  |ret v=>exact q3
 |false =>
  rw [zx Bool.false_ne_true]
  exact wpAny_execs_nil ⟨am,H2,I2,q2⟩
end
structure It where
 go:Nat->Hp->Prop
 yld:Nat->Hp->V->Hp->Prop
 stop:Nat->Hp->Prop
def c6 (X:Cx) (pins:Ac) (H:Hp) (b:Addr):Prop :=
 H b=none/\b≠X.env.locals/\b∉X.fs/\(b∈X.ex\/X.s₀.heap.objs.size<=b)/\(∀x c,X.env.cells.lookup x=some c->c≠b)/\∀p∈X.pn++pins,p.1≠b
def Inv.fpOk {X:Cx}{pins:Ac}{σ:St}{H H':Hp}{s:Shared}{b:Addr}(I:Inv X pins σ H s) (hb:s.heap.objs.size<=b) (hn:H' b=none):c6 X pins H' b:=by
 refine ⟨hn,Nat.ne_of_gt (yY I.lt hb),I.nofs hb,.inr (yW I.sz hb),λx c e z=>?_,λp hp z=>?_⟩
 ·obtain ⟨v,q⟩:=I.cell x c e
  exact absurd (yY q.lt (by rw [z];exact hb)) (Nat.lt_irrefl _)
 ·exact absurd (yY (yb (I.pin p hp).1) (by rw [z];exact hb)) (Nat.lt_irrefl _)
structure Turn (P:Program) (w:World) (K:PySem.W.Frag) (tg:Expr) (J:It) (fp:Ae) (it:Addr) (tn:Nat->Heap->Prop):Prop where
 mem:it∈fp
 obj:∀i h,tn i h->∀b∈fp,∃o,h.get? b=some o/\∀v,o.data ≠ .cell v
 keep:∀i h h',tn i h->(∀b∈fp,∀o,h.get? b=some o->h'.get? b=some o)->tn i h'
 item:∀(X:Cx),X.prog=P->X.w=w->X.K=K->X.calm=true->∀(i:Nat) (pins:Ac) (s:Shared) (σ:St) (H:Hp) (E:Aa),Inv X pins σ H s->(∀b∈fp,c6 X pins H b)->tn i s.heap->J.go i H ->
  wpAny (model P w) X.A (pyNext (.ref it)) (λr s1=>∃u,r=some u /\
   wpAny (model P w) X.A (letOwnedTupleGo tg (.ref it) u) (λ_ s2=>∃x H',Inv X pins σ H' s2/\RelV x u/\J.yld i H x H'/\tn (i+1) s2.heap/\∀b∈fp,H' b=none) E s1) E s
 done:∀(X:Cx),X.prog=P->X.w=w->X.K=K->X.calm=true->∀(i:Nat) (pins:Ac) (s:Shared) (σ:St) (H:Hp) (E:Aa),Inv X pins σ H s->(∀b∈fp,c6 X pins H b)->tn i s.heap->J.stop i H ->
  wpAny (model P w) X.A (pyNext (.ref it)) (λr s1=>r=none/\Inv X pins σ H s1) E s
 self:∀(A:Around) (i:Nat) (s:Shared) (Q:Aa) (E:Aa),tn i s.heap->Q (.ref it) s->wpAny (model P w) A (pyIter (.ref it)) Q E s
abbrev TI:=St->Hp->(It->Hp->Prop)->Prop
def uT (X:Cx) (pins:Ac) (σ:St) (tg:Expr) (R:It->Hp->Prop) (nP:Value) (s2:Shared):Prop :=
 ∃(it:Addr) (fp:Ae) (tn:Nat->Heap->Prop) (J:It) (H':Hp),nP=.ref it/\Inv X pins σ H' s2/\Turn X.prog X.w X.K tg J fp it tn/\tn 0 s2.heap/\(∀b∈fp,c6 X pins H' b)/\R J H'
def PI (X:Cx) (tg iter:Expr) (wi:TI):Prop :=
 ∀(pins:Ac) (s:Shared) (σ:St) (H:Hp) (R:It->Hp->Prop),Inv X pins σ H s->wi σ H R ->
  wpAny (model X.prog X.w) X.A (eval iter X.env) (λv s1=>wpAny (model X.prog X.w) X.A (pyIter v) (uT X pins σ tg R) X.xe s1) X.xe s
def kQ {M:Model}{A:Around}{E:Aa}{s:Shared}{tg:Expr}{it:Addr}{u:Value}{o:Obj}{n:String}{vs:Array Value}{Q:Unit->Shared->Prop}(ho:s.heap.get? it=some o) (hc:o.cls=.type n) (hd:o.data=.fields vs)
  (hn:["enumerate", "zip", "dict_itemiterator", "dict_reverseitemiterator", "odict_iterator", "itertools.zip_longest", "itertools.pairwise"].contains n=false) (hQ:Q () s):wpAny M A (letOwnedTupleGo tg (.ref it) u) Q E s:=by
 unfold letOwnedTupleGo
 cases tg<;>first
  |exact zW hQ
  | (cases u<;>first
    |exact zW hQ
    | (refine zy (wpAny_load ho ?_)
       rw [hc,hd]
       show wpAny M A (if (["enumerate", "zip", "dict_itemiterator", "dict_reverseitemiterator", "odict_iterator", "itertools.zip_longest", "itertools.pairwise"].contains n&&vs[0]?==some (rawInt _))=true then _ else _) Q E s
       rw [zx (by intro h;rw [hn,Bool.false_and] at h;cases h)]
       exact zW hQ))
def nQ (K:PySem.W.Frag) (a:Addr):It :=
 ⟨λi H=>∃xs x,a_ K H a xs/\xs[i]?=some x,λi H x H'=>H'=H/\∀xs,a_ K H a xs->xs[i]?=some x,λi H=>∃xs,a_ K H a xs/\xs.length<=i⟩
def qr (K:PySem.W.Frag) (a:Addr):It :=
 ⟨λi H=>∃xs x,bK K H a xs/\xs[i]?=some x,λi H x H'=>H'=H/\∀xs,bK K H a xs->xs[i]?=some x,λi H=>∃xs,bK K H a xs/\xs.length<=i⟩
def nR (lo:Int) (n:Nat):It:=⟨λi _=>i<n,λi H x H'=>H'=H/\x=.int (lo+i),λi _=>n<=i⟩
def E_ {P:Program}{w:World}{K:PySem.W.Frag}{tg:Expr}(a it:Addr):Turn P w K tg (nQ K a) [it] it (λi h=>h.IsListIter it a i) where
 mem:=by simp
 obj:=λi h st b hb=>by
  have e:b=it:=by simpa using hb
  subst e
  obtain ⟨o,e,c,d⟩:=st
  exact ⟨o,e,λv z=>by rw [d] at z;cases z⟩
 keep:=λi h h' st k=>st.at λo e=>k it (by simp) o e
 item:=by
  intro X hP hw hK hc i pins s σ H E I hf st hg
  subst hP hw hK
  obtain ⟨xs,x,hq,hx⟩:=hg
  obtain ⟨its,rv,p,hz⟩:=I.list hq
  obtain ⟨u,hu,ru⟩:=rv.get hx
  obtain ⟨f0,f1,f2,f3,f4,f5⟩:=hf it (by simp)
  refine wpAny_pyNext_list_item st p.isList (x:=u) (by simpa using hu) λh' aR sb=>?_
  have I1:Inv X pins σ H { s with heap:=h' }:=I.turned (t':=s.toks) (λb o hb e=>(sb.2 b hb).trans e) f0 f1 f3 f4 f5
  obtain ⟨o,e,c,d⟩:=id aR
  exact ⟨u,rfl,kQ (s:={ s with heap:=h' }) e c d (by decide) ⟨x,H,I1,ru,⟨rfl,λys hy=>by rw [I.list_inj hy hq];exact hx⟩,aR,λb hb=>(hf b hb).1⟩⟩
 done:=by
  intro X hP hw hK hc i pins s σ H E I hf st hg
  subst hP hw hK
  obtain ⟨xs,hq,hx⟩:=hg
  obtain ⟨its,rv,p,hz⟩:=I.list hq
  obtain ⟨f0,f1,f2,f3,f4,f5⟩:=hf it (by simp)
  have hl:=rv.length
  exact wpAny_pyNext_list_end (I.ok.hd hc) st p.isList (by simp;omega) λh' eb=>⟨rfl,I.turned (t':=s.toks) (λb o hb e=>eb b o hb e) f0 f1 f3 f4 f5⟩
 self:=λ_ _ _ _ _ st h=>wpAny_pyIter_listiter st h
def Fb {P:Program}{w:World}{K:PySem.W.Frag}{tg:Expr}(a it:Addr):Turn P w K tg (qr K a) [it] it (λi h=>h.IsTupleIter it a i) where
 mem:=by simp
 obj:=λi h st b hb=>by
  have e:b=it:=by simpa using hb
  subst e
  obtain ⟨o,e,c,d⟩:=st
  exact ⟨o,e,λv z=>by rw [d] at z;cases z⟩
 keep:=λi h h' st k=>st.at λo e=>k it (by simp) o e
 item:=by
  intro X hP hw hK hc i pins s σ H E I hf st hg
  subst hP hw hK
  obtain ⟨xs,x,hq,hx⟩:=hg
  obtain ⟨its,rv,p,hz⟩:=I.tuple hq
  obtain ⟨u,hu,ru⟩:=rv.get hx
  obtain ⟨f0,f1,f2,f3,f4,f5⟩:=hf it (by simp)
  refine wpAny_pyNext_tuple_item st (show s.heap.IsTuple a its.toArray from p) (x:=u) (by simpa using hu) λh' aR sb=>?_
  have I1:Inv X pins σ H { s with heap:=h' }:=I.turned (t':=s.toks) (λb o hb e=>(sb.2 b hb).trans e) f0 f1 f3 f4 f5
  obtain ⟨o,e,c,d⟩:=id aR
  exact ⟨u,rfl,kQ (s:={ s with heap:=h' }) e c d (by decide) ⟨x,H,I1,ru,⟨rfl,λys hy=>by rw [I.tuple_inj hy hq];exact hx⟩,aR,λb hb=>(hf b hb).1⟩⟩
 done:=by
  intro X hP hw hK hc i pins s σ H E I hf st hg
  subst hP hw hK
  obtain ⟨xs,hq,hx⟩:=hg
  obtain ⟨its,rv,p,hz⟩:=I.tuple hq
  obtain ⟨f0,f1,f2,f3,f4,f5⟩:=hf it (by simp)
  have hl:=rv.length
  exact wpAny_pyNext_tuple_end (I.ok.hd hc) st (show s.heap.IsTuple a its.toArray from p) (by simp;omega) λh' eb=>⟨rfl,I.turned (t':=s.toks) (λb o hb e=>eb b o hb e) f0 f1 f3 f4 f5⟩
 self:=λ_ _ _ _ _ st h=>wpAny_pyIter_tupleiter st h
def Fc {P:Program}{w:World}{K:PySem.W.Frag}{tg:Expr}(it:Addr) (lo:Int) (n:Nat):Turn P w K tg (nR lo n) [it] it (λi h=>IsRangeIter h it (lo+(i:Nat)*1) ((n:Int)-(i:Nat)) 1) where
 mem:=by simp
 obj:=λi h st b hb=>by
  have e:b=it:=by simpa using hb
  subst e
  exact ⟨_,st,λv z=>by
   have z':Data.fields _=Data.cell v:=z
   cases z'⟩
 keep:=λi h h' st k=>k it (by simp) _ st
 item:=by
  intro X hP hw hK hc i pins s σ H E I hf st hg
  subst hP hw hK
  obtain ⟨f0,f1,f2,f3,f4,f5⟩:=hf it (by simp)
  have W:=Walks.range (prog:=X.prog) (w:=X.w) (I.ok.hd hc) it lo 1 n
  refine W.item i s _ _ hg st λv h' tk hv aR kk=>?_
  obtain ⟨t,rfl⟩:=hv
  have I1:Inv X pins σ H { s with heap:=h',toks:=tk }:=I.turned (λb o hb e=>kk b o (by simpa using hb) e) f0 f1 f3 f4 f5
  refine ⟨_,rfl,kQ (s:={ s with heap:=h',toks:=tk }) (n := "range_iterator") aR rfl rfl (by decide) ⟨.int (lo+i),H,I1,⟨t,?_⟩,⟨rfl,rfl⟩,aR,λb hb=>(hf b hb).1⟩⟩
  rw [Int.mul_one]
 done:=by
  intro X hP hw hK hc i pins s σ H E I hf st hg
  subst hP hw hK
  obtain ⟨f0,f1,f2,f3,f4,f5⟩:=hf it (by simp)
  exact wpAny_pyNext_range_end (I.ok.hd hc) st (by have:n<=i:=hg;omega) λh' eb=>⟨rfl,I.turned (t':=s.toks) (λb o hb e=>eb b o hb e) f0 f1 f3 f4 f5⟩
 self:=λ_ _ _ _ _ st h=>wpAny_pyIter_rangeiter st h
section
variable {X:Cx} {tg:Expr}
def Fd {pins:Ac}{σ:St}{H:Hp}{s:Shared}{R:It->Hp->Prop}{E:Aa}{lo hi:Int}{t u v:Tok}{tk:Nat}(I:Inv X pins σ H s) (h1 : -(2 ^ 62)<=lo) (h2:lo<2 ^ 62) (h3 : -(2 ^ 62)<=hi) (h4:hi<2 ^ 62)
  (q:R (nR lo (hi-lo).toNat) H):wpAny (model X.prog X.w) X.A (pyIter (.ref s.heap.objs.size)) (uT X pins σ tg R) E { s with heap:=s.heap.push { cls:=.type "range", data:=.fields #[.int lo t,.int hi u,.int 1 v] },toks:=tk }:=by
 refine wpAny_pyIter_range (IsRange.new ..) (small_one h1 h2 h3 h4) ?_
 have I1:Inv X pins σ H { s with heap:=s.heap.push { cls:=.type "range", data:=.fields #[.int lo t,.int hi u,.int 1 v] },toks:=tk }:=I.kept λb o e=>z8 _ e
 refine ⟨(s.heap.push { cls:=.type "range", data:=.fields #[.int lo t,.int hi u,.int 1 v] }).objs.size,[(s.heap.push { cls:=.type "range", data:=.fields #[.int lo t,.int hi u,.int 1 v] }).objs.size],_,_,H,rfl,
  I1.kept (t':=tk) λb o e=>z8 _ e,Fc _ lo (hi-lo).toNat,?_,λb hb=>?_,q⟩
 ·have e1:lo+((0:Nat):Int)*1=lo:=by simp
  have e2:(((hi-lo).toNat:Nat):Int)-((0:Nat):Int)=Builtin.Range.rangeSize lo hi 1:=by rw [rangeSize_one];split<;>omega
  show IsRangeIter _ _ (lo+((0:Nat):Int)*1) ((((hi-lo).toNat:Nat):Int)-((0:Nat):Int)) 1
  rw [e1,e2]
  exact yV _ rfl
 ·have e:b=(s.heap.push { cls:=.type "range", data:=.fields #[.int lo t,.int hi u,.int 1 v] }).objs.size:=by simpa using hb
  subst e
  exact I1.fpOk (z0 _) (I1.hok.fresh (z0 _))
def bT (ta:TA):TI:=fun σ H R=>ta σ H λvs H1=>∃j:Int,vs=[.int j] /\ -(2 ^ 62)<=j/\j<2 ^ 62/\R (nR 0 j.toNat) H1
def Fe {a:Expr} {ta:TA} {p pos:Pos} (hg:Gl X "range") (hm:X.mg "range" = none) (ha:PA X [a] ta) (hs:starEach [a] X.env=[(false,eval a X.env)]:=by rfl):PI X tg (.Call (.Name "range" p) [a] [] pos) (bT ta):=by
 intro pins s σ H R I h
 refine Call_ (lV I hg hm boot_range (PyProof.Rows.callWith_type1 (aO (ha pos pins s σ H _ I h) λus s1 ⟨vs,H1,I1,r1,q1⟩=>?_) hs rfl))
 obtain ⟨j,e,q1,q2,q⟩:=q1
 subst e
 cases r1 with
 |cons r rr =>
  cases rr
  obtain ⟨t,rfl⟩:=r
  exact call_range_1 (Fd I1 (by omega) (by omega) q1 q2 (by simpa using q))
def Ff (wi:TI) (g:TG) (tb:TS):TS:=λD σ H=>wi σ H λJ H1=>∃W:Nat->Nat->St->Hp->Prop,(∃m,W 0 m σ H1)/\∀i m σ H,W i m σ H ->
 (J.stop i H/\D.nx σ H)\/(J.go i H/\∃N:St->Hp->Prop,(∀σ' H',N σ' H'->∃m',m'<m/\W (i+1) m' σ' H')/\∀x H',J.yld i H x H'->g x σ H' λaz H2=>tb { D with nx:=N,ct:=N,bk:=D.nx } az H2)
def eF (fp:Ae) (h:Heap):Ac:=fp.filterMap λb=>(h.get? b).map λo=>(b,o)
def lW {fp:Ae}{h:Heap}{b:Addr}{o:Obj}(hb:b∈fp) (e:h.get? b=some o):(b,o)∈eF fp h:=List.mem_filterMap.mpr ⟨b,hb,by rw [e];rfl⟩
def Fg {fp:Ae}{h:Heap}{p:Addr×Obj}(hp:p∈eF fp h):p.1∈fp/\h.get? p.1=some p.2:=by
 obtain ⟨b,hb,e⟩:=List.mem_filterMap.mp hp
 cases q:h.get? b with
 |none=>rw [q] at e;cases e
 |some o =>
  rw [q] at e
  have e':(b,o)=p:=Option.some.inj e
  subst e'
  exact ⟨hb,q⟩
def Inv.pinned {pins:Ac}{σ:St}{H:Hp}{s:Shared}{fp:Ae}(I:Inv X pins σ H s) (hf:∀b∈fp,c6 X pins H b) (ho:∀b∈fp,∃o,s.heap.get? b=some o/\∀v,o.data ≠ .cell v):Inv X (pins++eF fp s.heap) σ H s :=
 I.pins_of λp hp=>(j2.mp hp).elim (λz=>I.pin p (yP _ z)) λz=>by
  obtain ⟨hb,e⟩:=Fg z
  obtain ⟨f0,f1,f2,_⟩:=hf p.1 hb
  obtain ⟨o,e',d⟩:=ho p.1 hb
  rw [e] at e';cases e'
  exact ⟨e,f0,f1,f2,d⟩
def Inv.unpinned {pins pl:Ac}{σ:St}{H:Hp}{s:Shared}(I:Inv X (pins++pl) σ H s):Inv X pins σ H s:=I.pins_of λp hp=>I.pin p (yP _ (kI _ hp))
def uU {iter:Expr}{body:List Stmt}{wi:TI}{g:TG}{tb:TS}{pos:Pos}(hp:PassesOwn (model X.prog X.w) X.A X.env X.xe) (hc:X.calm=true) (hi:PI X tg iter wi) (hg:PG X tg g) (hb:b6 X body tb)
  (hs:∀x,foldedSetIterable iter X.env x=pure x:=by intro _;rfl):PS X (.For tg iter body [] pos) (Ff wi g tb):=by
 intro pins s σ H D I h
 refine wpAny_For (aO (hi pins s σ H _ I h) λv s1 h1=>aO h1 λnP s2 h2=>?_) hs
 obtain ⟨it,fp,tn,J,H2,e,I2,T,aK,f2,W,⟨m0,w0⟩,turn⟩:=h2
 subst e
 have stat:∀{H':Hp},(∀b∈fp,H' b=none)->∀b∈fp,c6 X pins H' b:=λhn b hb=>⟨hn b hb,(f2 b hb).2⟩
 refine codeAny_forLoop_any (λn s'=>∃i σ' H',Inv X pins σ' H' s'/\tn i s'.heap/\(∀b∈fp,H' b=none)/\W i n σ' H') ?_ m0 ⟨0,σ,H2,I2,aK,λb hb=>(f2 b hb).1,w0⟩
 rintro n s3 ⟨i,ao,H3,I3,ba,gr,w3⟩
 rcases turn i n ao H3 w3 with ⟨stop,qn⟩|⟨go,N,hN,step⟩
 ·refine wpAny_passesOwn hp (aO (T.done X rfl rfl rfl hc i pins s3 ao H3 X.xe I3 (stat gr) ba stop) λr s4 ⟨hr,I4⟩=>?_)
  subst hr
  exact wpAny_execs_nil ⟨ao,H3,I4,qn⟩
 ·refine wpAny_passesOwn hp (aO (T.item X rfl rfl rfl hc i pins s3 ao H3 X.xe I3 (stat gr) ba go) λr s4 ⟨u,hr,h4⟩=>?_)
  subst hr
  refine wpAny_passesOwn hp (aO h4 λ_ s5 ⟨x,H5,I5,r5,y5,cM,lX⟩=>?_)
  have lY:=I5.pinned (stat lX) (T.obj _ _ cM)
  refine wpAny_passesOwn hp (aO (hg _ s5 ao H5 x u _ lY r5 (step x H5 y5)) λ_ s6 ⟨aA,H6,I6,q6⟩=>?_)
  refine wpAny_passesOwn hp (aO (hb _ s6 aA H6 _ I6 q6) λf s7 q7=>?_)
  have again:∀{ar:St} {H7:Hp},Inv X (pins++eF fp s5.heap) ar H7 s7->N ar H7->∃m,m<n/\∃i σ' H',Inv X pins σ' H' s7/\tn i s7.heap/\(∀b∈fp,H' b=none)/\W i m σ' H':=λ{ar H7} I7 n7=>by
   obtain ⟨m',hm,w7⟩:=hN ar H7 n7
   refine ⟨m',hm,i+1,ar,H7,I7.unpinned,T.keep _ _ _ cM λb hb o e=>(I7.pin (b,o) (yP _ (yP _ (lW hb e)))).1,λb hb=>?_,w7⟩
   obtain ⟨o,e,d⟩:=T.obj _ _ cM b hb
   exact (I7.pin (b,o) (yP _ (yP _ (lW hb e)))).2.1
  cases f with
  |next=>obtain ⟨ar,H7,I7,n7⟩:=q7;exact again I7 n7
  |cont=>obtain ⟨ar,H7,I7,n7⟩:=q7;exact again I7 n7
  |brk=>obtain ⟨ar,H7,I7,q7⟩:=q7;exact ⟨ar,H7,I7.unpinned,q7⟩
  |ret v=>obtain ⟨x7,ar,H7,I7,r7,q7⟩:=q7;exact ⟨x7,ar,H7,I7.unpinned,r7,q7⟩
end
abbrev R2:=V->V->Hp->VK->Prop
def bb (X:Cx) (f:Value->Value->Sem Value) (r:R2):Prop :=
 ∀(pins:Ac) (s:Shared) (σ:St) (H:Hp) (x y:V) (v u:Value) (Q:VK),Inv X pins σ H s->RelV x v->RelV y u->r x y H Q ->
  wpAny (model X.prog X.w) X.A (f v u) (EP X pins σ Q) X.xe s
def lZ (X:Cx) (f:Value->Sem Value) (r:V->Hp->VK->Prop):Prop :=
 ∀(pins:Ac) (s:Shared) (σ:St) (H:Hp) (x:V) (v:Value) (Q:VK),Inv X pins σ H s->RelV x v->r x H Q ->
  wpAny (model X.prog X.w) X.A (f v) (EP X pins σ Q) X.xe s
def bq (X:Cx) (f:Value) (r:List V->Hp->VK->Prop):Prop :=
 ∀(pins:Ac) (s:Shared) (σ:St) (H:Hp) (xs:List V) (us:Af) (Q:VK),Inv X pins σ H s->Vals xs us->r xs H Q ->
  wpAny (model X.prog X.w) X.A (call f us) (EP X pins σ Q) X.xe s
def l6 (r:R2) (ta tb:TE):TE:=fun σ H Q=>ta σ H λx H1=>tb σ H1 λy H2=>r x y H2 Q
def Fh (r:V->Hp->VK->Prop) (ta:TE):TE:=fun σ H Q=>ta σ H λx H1=>r x H1 Q
def rI (C:Int->Int->Prop) (g:Int->Int->V):R2:=λx y H Q=>∃i j,x=.int i/\y=.int j/\C i j/\Q (g i j) H
def fL (g:Int->Int->V):R2:=λx y H Q=>∃i j,x=.int i/\y=.int j/\Q (g i j) H
def rU (g:Int->V):V->Hp->VK->Prop:=λx H Q=>∃i,x=.int i/\Q (g i) H
section
variable {X:Cx} {a b c:Expr} {ta tb tc:TE} {pos:Pos}
def l7 (ha:PE X a ta) (hb:PE X b tb) {pins:Ac}{s:Shared}{σ:St}{H:Hp}{R:V->V->Hp->Prop}(I:Inv X pins σ H s)
  (h:ta σ H λx H1=>tb σ H1 λy H2=>R x y H2) {Q:Aa} {f:Value->Value->Sem Value}
  (hf:∀v u s2 x y H2,Inv X pins σ H2 s2->RelV x v->RelV y u->R x y H2->wpAny (model X.prog X.w) X.A (f v u) Q X.xe s2) :
  wpAny (model X.prog X.w) X.A (eval a X.env) (λv ag=>wpAny (model X.prog X.w) X.A (eval b X.env) (λu ae=>wpAny (model X.prog X.w) X.A (f v u) Q X.xe ae) X.xe ag) X.xe s:=by
 refine aO (ha pins s σ H _ I h) λv s1 ⟨x,H1,I1,r1,q1⟩=>?_
 refine aO (hb pins s1 σ H1 _ I1 q1) λu s2 ⟨y,H2,I2,r2,q2⟩=>?_
 exact hf v u s2 x y H2 I2 r1 r2 q2
def Fi {op:Operator}{r:R2}(ho:bb X (binaryOp op) r) (ha:PE X a ta) (hb:PE X b tb):PE X (.BinOp a op b pos) (l6 r ta tb):=by
 intro pins s σ H Q I h
 exact wpAny_BinOp (l7 ha hb I h λv u s2 x y H2 I2 rx ry q=>ho pins s2 σ H2 x y v u Q I2 rx ry q)
def Fj {op:UnaryOp}{r:V->Hp->VK->Prop}(ho:lZ X (unaryOp op) r) (ha:PE X a ta):PE X (.UnaryOp op a pos) (Fh r ta):=by
 intro pins s σ H Q I h
 exact UnaryOp_ (aO (ha pins s σ H _ I h) λv s1 ⟨x,H1,I1,r1,q1⟩=>ho pins s1 σ H1 x v Q I1 r1 q1)
def opI {f:Value->Value->Sem Value}{C:Int->Int->Prop}{g:Int->Int->Int}
  (rule:∀(i j:Int) (t u:Tok) (s:Shared) (Q:Aa) (E:Aa),C i j->Q (.int (g i j) s.toks) { s with toks:=s.toks+1 }->wpAny (model X.prog X.w) X.A (f (.int i t) (.int j u)) Q E s) :
  bb X f (rI C λi j=>.int (g i j)):=by
 intro pins s σ H x y v u Q I rx ry h
 obtain ⟨i,j,rfl,rfl,hc,q⟩:=h
 obtain ⟨t,rfl⟩:=rx
 obtain ⟨t',rfl⟩:=ry
 exact rule i j t t' s _ _ hc ⟨.int (g i j),H,I.tok _,⟨_,rfl⟩,q⟩
def uV {f:Value->Value->Sem Value}{g:Int->Int->Int}
  (rule:∀(i j:Int) (t u:Tok) (s:Shared) (Q:Aa) (E:Aa),Q (.int (g i j) s.toks) { s with toks:=s.toks+1 }->wpAny (model X.prog X.w) X.A (f (.int i t) (.int j u)) Q E s) :
  bb X f (fL λi j=>.int (g i j)):=by
 intro pins s σ H x y v u Q I rx ry h
 obtain ⟨i,j,rfl,rfl,q⟩:=h
 obtain ⟨t,rfl⟩:=rx
 obtain ⟨t',rfl⟩:=ry
 exact rule i j t t' s _ _ ⟨.int (g i j),H,I.tok _,⟨_,rfl⟩,q⟩
def qt {f:Value->Value->Sem Value}{g:Int->Int->Bool}
  (rule:∀(i j:Int) (t u:Tok) (s:Shared) (Q:Aa) (E:Aa),Q (.bool (g i j)) s->wpAny (model X.prog X.w) X.A (f (.int i t) (.int j u)) Q E s) :
  bb X f (fL λi j=>.bl (g i j)):=by
 intro pins s σ H x y v u Q I rx ry h
 obtain ⟨i,j,rfl,rfl,q⟩:=h
 obtain ⟨t,rfl⟩:=rx
 obtain ⟨t',rfl⟩:=ry
 exact rule i j t t' s _ _ ⟨.bl (g i j),H,I,rfl,q⟩
def uW (i j:Int):Prop:=0<=j/\j<=1000000/\i.natAbs<2 ^ 64
def kx (i j:Int):Prop:=(-(2 ^ 64)<i/\i<2 ^ 64)\/(-(2 ^ 64)<j/\j<2 ^ 64)
def kx.ok {i j:Int}(h:kx i j):IntMulOk i j:=by
 rcases h with ⟨h1,h2⟩|⟨h1,h2⟩
 ·exact .of_left (intBits_le_64 h1 h2)
 ·exact .of_right (intBits_le_64 h1 h2)
def Fm:bb X (binaryOp .Add) (fL λi j=>.int (i+j)):=uV λ_ _ _ _ _ _ _ q=>add_int q
def Fn:bb X (binaryOp .Sub) (fL λi j=>.int (i-j)):=uV λ_ _ _ _ _ _ _ q=>sub_int q
def Fo:bb X (binaryOp .Mult) (rI kx λi j=>.int (i*j)):=opI λ_ _ _ _ _ _ _ hc q=>mul_int q hc.ok
def Fp:bb X (binaryOp .Mod) (rI (λ_ j=>j≠0) λi j=>.int (i.fmod j)):=opI λ_ _ _ _ _ _ _ hc q=>mod_int' hc q
def Fq:bb X (binaryOp .Pow) (rI uW λi j=>.int (i ^ j.toNat)):=opI λ_ _ _ _ _ _ _ hc q=>pow_int_small hc.1 hc.2.1 hc.2.2 q
def Fs {f:Value->Sem Value}{g:Int->Int}
  (rule:∀(i:Int) (t:Tok) (s:Shared) (Q:Aa) (E:Aa),Q (.int (g i) s.toks) { s with toks:=s.toks+1 }->wpAny (model X.prog X.w) X.A (f (.int i t)) Q E s) :
  lZ X f (rU λi=>.int (g i)):=by
 intro pins s σ H x v Q I rx h
 obtain ⟨i,rfl,q⟩:=h
 obtain ⟨t,rfl⟩:=rx
 exact rule i t s _ _ ⟨.int (g i),H,I.tok _,⟨_,rfl⟩,q⟩
def Ft:lZ X (unaryOp .USub) (rU λi=>.int (-i)):=Fs λ_ _ _ _ _ q=>neg_int q
def Fu {pins:Ac}{σ:St}{H:Hp}{s:Shared}{Q:VK}{k k':Bool}(I:Inv X pins σ H s) (q:Q (.bl k) H) (e:k=k'):EP X pins σ Q (.bool k') s:=by
 subst e
 exact ⟨.bl k,H,I,rfl,q⟩
def Fv:bb X (compareOp .Lt) (fL λi j=>.bl (decide (i<j))):=qt λ_ _ _ _ _ _ _ q=>lt_int q
def Fw:bb X (compareOp .LtE) (fL λi j=>.bl (decide (i<=j))):=qt λ_ _ _ _ _ _ _ q=>le_int q
def Fx:bb X (compareOp .Gt) (fL λi j=>.bl (decide (j<i))):=qt λ_ _ _ _ _ _ _ q=>gt_int q
def Fy:bb X (compareOp .In) (λx y H Q=>∃i j,x=.str i/\y=.str j/\Q (.bl (!(Builtin.Str.occurrences j i 0 j.length 1).isEmpty)) H):=by
 intro pins s σ H x y v u Q I rx ry h
 obtain ⟨i,j,rfl,rfl,q⟩:=h
 obtain ⟨t,rfl⟩:=rx
 obtain ⟨t',rfl⟩:=ry
 exact in_str (Fu I q rfl)
def bb.or {f:Value->Value->Sem Value}{r r':R2}(h:bb X f r) (h':bb X f r'):bb X f (λx y H Q=>r x y H Q\/r' x y H Q):=by
 intro pins s σ H x y v u Q I rx ry q
 rcases q with q|q
 ·exact h pins s σ H x y v u Q I rx ry q
 ·exact h' pins s σ H x y v u Q I rx ry q
def ky (b:Expr) {op:CmpOp}(h:op ≠ .In:=by decide) (h2:op ≠ .NotIn:=by decide):behindInMarks op b=false:=by
 have e1:(op==CmpOp.In)=false:=by cases op<;>first|rfl|exact absurd rfl h
 have e2:(op==CmpOp.NotIn)=false:=by cases op<;>first|rfl|exact absurd rfl h2
 cases b<;>simp [behindInMarks,e1,e2]
def FA {op:CmpOp}{r:R2}(ho:bb X (compareOp op) r) (ha:PE X a ta) (hb:PE X b tb) (hm:behindInMarks op b=false):PE X (.Compare a [op] [b] pos) (l6 r ta tb):=by
 intro pins s σ H Q I h
 exact wpAny_Compare1 (l7 ha hb I h λv u s2 x y H2 I2 rx ry q=>ho pins s2 σ H2 x y v u Q I2 rx ry q) hm
def uX (t:TE):TT:=fun σ H Q=>t σ H λx H'=>∃k,x=.bl k/\Q k H'
def FC {op:CmpOp}{r:R2}(ho:bb X (compareOp op) r) (ha:PE X a ta) (hb:PE X b tb) (hm:behindInMarks op b=false):PT X (.Compare a [op] [b] pos) (uX (l6 r ta tb)):=by
 intro pins s σ H Q I h
 refine wpAny_isTrue_Compare1 (aO (ha pins s σ H _ I h) λv s1 ⟨x,H1,I1,r1,q1⟩=>aO (hb pins s1 σ H1 _ I1 q1) λu s2 ⟨y,H2,I2,r2,q2⟩ =>
  aO (ho pins s2 σ H2 x y v u _ I2 r1 r2 q2) λc s3 ⟨z,H3,I3,r3,k,e,q3⟩=>?_) hm
 subst e
 cases r3
 exact hI ⟨H3,I3,q3⟩
def qu (r r':R2) (ta tb tc:TE):TE:=fun σ H Q=>ta σ H λx H1=>tb σ H1 λy H2=>r x y H2 λz H3=>∃k,z=.bl k /\
 (if k=true then tc σ H3 λw' H4=>r' y w' H4 Q else Q (.bl false) H3)
def FD {op b7:CmpOp}{r r':R2}(ho:bb X (compareOp op) r) (ho':bb X (compareOp b7) r') (ha:PE X a ta) (hb:PE X b tb) (hc:PE X c tc)
  (hm:lastMarks [op,b7] [b,c]=false:=by with_unfolding_all rfl):PE X (.Compare a [op,b7] [b,c] pos) (qu r r' ta tb tc):=by
 intro pins s σ H Q I h
 refine Compare_chain (aO (ha pins s σ H _ I h) λv s1 ⟨x,H1,I1,r1,q1⟩=>chain_link (aO (hb pins s1 σ H1 _ I1 q1) λu s2 ⟨y,H2,I2,r2,q2⟩ =>
  aO (ho pins s2 σ H2 x y v u _ I2 r1 r2 q2) λd s3 ⟨z,H3,I3,r3,k,e,q3⟩=>?_)) hm
 subst e
 cases r3
 refine hI ?_
 cases k with
 |false=>exact ite_ff ⟨.bl false,H3,I3,rfl,q3⟩
 |true=>exact ite_tt (chain_last (aO (hc pins s3 σ H3 _ I3 q3) λw' s4 ⟨z',H4,I4,r4,q4⟩=>ho' pins s4 σ H4 y z' u w' Q I4 r2 r4 q4))
def FE {op b7:CmpOp}{r r':R2}(ho:bb X (compareOp op) r) (ho':bb X (compareOp b7) r') (ha:PE X a ta) (hb:PE X b tb) (hc:PE X c tc)
  (hm:lastMarks [op,b7] [b,c]=false:=by with_unfolding_all rfl):PT X (.Compare a [op,b7] [b,c] pos) (uX (qu r r' ta tb tc)):=by
 intro pins s σ H Q I h
 refine isTrue_chain (aO (ha pins s σ H _ I h) λv s1 ⟨x,H1,I1,r1,q1⟩=>test_link (aO (hb pins s1 σ H1 _ I1 q1) λu s2 ⟨y,H2,I2,r2,q2⟩ =>
  aO (ho pins s2 σ H2 x y v u _ I2 r1 r2 q2) λd s3 ⟨z,H3,I3,r3,k,e,q3⟩=>?_)) hm
 subst e
 cases r3
 refine hI ?_
 cases k with
 |false =>
  obtain ⟨k',e',q'⟩:=q3
  cases e'
  exact ite_ff ⟨H3,I3,q'⟩
 |true =>
  refine ite_tt (test_last (aO (hc pins s3 σ H3 _ I3 q3) λw' s4 ⟨z',H4,I4,r4,q4⟩=>aO (ho' pins s4 σ H4 y z' u w' _ I4 r2 r4 q4) λd' s5 ⟨z2,H5,I5,r5,k2,e2,q5⟩=>?_))
  subst e2
  cases r5
  exact hI ⟨H5,I5,q5⟩
def nS:(sizeLine:Nat)<2 ^ 63:=by rw [sizeLine_eq];decide
def FF:bb X (binaryOp .Add) (λx y H Q=>∃i j,x=.str i/\y=.str j/\i.length+j.length<=sizeLine/\Q (.str (i++j)) H):=by
 intro pins s σ H x y v u Q I rx ry h
 obtain ⟨i,j,rfl,rfl,hz,q⟩:=h
 obtain ⟨t,rfl⟩:=rx
 obtain ⟨t',rfl⟩:=ry
 exact add_str (λt' tk=>⟨.str (i++j),H,I.tok _,⟨_,rfl⟩,q⟩) hz
def hZ {x:V}{us:Af}(r:Vals [x] us):∃u,us=[u]/\RelV x u:=by
 cases r with
 |cons r1 r2=>cases r2;exact ⟨_,rfl,r1⟩
def qv {x y:V}{us:Af}(r:Vals [x,y] us):∃u w',us=[u,w']/\RelV x u/\RelV y w':=by
 cases r with
 |cons r1 r2 =>
  cases r2 with
  |cons r3 r4=>cases r4;exact ⟨_,_,rfl,r1,r3⟩
def FG:bq X (.type "str") (λxs H Q=>∃i,xs=[.int i]/\i.natAbs.log2<1920/\Q (.str (toString i)) H):=by
 intro pins s σ H xs us Q I r h
 obtain ⟨i,rfl,hz,q⟩:=h
 obtain ⟨u,rfl,t,rfl⟩:=hZ r
 exact PySem.P.str_of_int hz ⟨.str _,H,I.tok _,⟨_,rfl⟩,q⟩
def uY (K:PySem.W.Frag) (x:V) (H:Hp) (n:Nat):Prop :=
 match x with
 |.str y=>y.length<=sizeLine/\n=y.length
 |.byt y=>y.size<=sizeLine/\n=y.size
 |.ref p=>(∃xs,a_ K H p xs/\n=xs.length)\/∃xs,bK K H p xs/\n=xs.length
 |_=>False
def FH:bq X (.builtin "len") (λxs H Q=>∃x n,xs=[x]/\uY X.K x H n/\Q (.int n) H):=by
 intro pins s σ H xs us Q I r h
 obtain ⟨x,n,rfl,e,q⟩:=h
 obtain ⟨u,rfl,rx⟩:=hZ r
 have hl:=nS
 have hs:sizeLine=16777216:=sizeLine_eq
 cases x with
 |str y =>
  obtain ⟨t,rfl⟩:=rx
  obtain ⟨hy,e'⟩:y.length<=sizeLine/\n=y.length:=e
  subst e'
  exact len_str (by omega) ⟨.int _,H,I.tok _,⟨_,rfl⟩,q⟩
 |byt y =>
  obtain ⟨t,rfl⟩:=rx
  obtain ⟨hy,e'⟩:y.size<=sizeLine/\n=y.size:=e
  subst e'
  exact PySem.W.len_bytes (by omega) ⟨.int _,H,I.tok _,⟨_,rfl⟩,q⟩
 |ref p =>
  cases rx
  have e':(∃xs,a_ X.K H p xs/\n=xs.length)\/∃xs,bK X.K H p xs/\n=xs.length:=e
  rcases e' with ⟨xs,hx,e'⟩|⟨xs,hx,e'⟩
  ·subst e'
   obtain ⟨its,r',pl,hz⟩:=I.list hx
   have hlen:=r'.length
   exact Calls.call_len_list pl.isList (by simp only [yO];omega) ⟨.int xs.length,H,I.tok _,⟨_,by simp only [yO];rw [hlen]⟩,q⟩
  ·subst e'
   obtain ⟨its,r',pl,hz⟩:=I.tuple hx
   have hlen:=r'.length
   exact len_tuple pl (by simp only [yO];omega) ⟨.int xs.length,H,I.tok _,⟨_,by simp only [yO];rw [hlen]⟩,q⟩
 |_=>exact (show False from e).elim
end
structure eK (h:Heap) (x dx C:Addr) (mA:Ab):Prop where
 obj:h.get? x=some (PySem.W.instObj C dx)
 ns:h.Ns1 dx mA
 ne:dx≠x
def uZ {h:Heap}{dx:Addr}{mA:Ab}(n:h.Ns1 dx mA):∃od,h.get? dx=some od/\∀name,PySem.W.lookIn name od=some (mA name):=by
 obtain ⟨o,es,ep,ho,hd,hk,_,hm⟩:=n
 refine ⟨o,ho,λname=>?_⟩
 have e:=hm name
 unfold nsFind findBy at e
 rw [<-Array.find?_toList] at e
 unfold PySem.W.lookIn
 rw [hd]
 dsimp only
 split
 ·rename_i y q
  rw [q] at e
  exact congrArg some e
 ·rename_i q
  rw [q] at e
  have a:es.toList.any (·.refKey)=false:=by
   rw [List.any_eq_false]
   intro y hy
   obtain ⟨z,t,l8⟩:=hk y (Array.mem_toList_iff.mp hy)
   simp [DictEntry.refKey,l8]
  have a':¬es.toList.any (·.refKey)=true:=by rw [a];exact Bool.false_ne_true
  rw [zx a']
  exact congrArg some e
def eK.look {h:Heap}{x dx C:Addr}{mA:Ab}(I:eK h x dx C mA):∃od,PySem.W.InstAt h x (PySem.W.instObj C dx) C (some od)/\∀name,PySem.W.lookIn name od=some (mA name) :=
 let ⟨od,ho,hl⟩:=uZ I.ns
 ⟨od,⟨I.obj,rfl,rfl,ho⟩,hl⟩
section
variable {prog:Program} {w:World} {A:Around} {E:Aa} {s:Shared} {K:PySem.W.Frag} {x dx C f:Addr} {mA:Ab} {name:Str} {v:Value}
def FI {expr:Bool}{Q:Aa}(X:K.In s.heap) (I:eK s.heap x dx C mA) (hg:PySem.W.plainGet K C name=true) (hh:PySem.W.hasDictIn K C=true)
  (ha:PySem.W.findIn K (.ref C) name=some none) (hv:mA name=some v) (qw:PySem.W.handedIn v=true) (h:Q v { s with toks:=s.toks+1 }) :
  wpAny (model prog w) A (getAttr (.ref x) name expr) Q E s:=by
 obtain ⟨od,J,hl⟩:=I.look
 exact PySem.W.get_value X J (PySem.W.plainGet_of hg).1 (PySem.W.findObj_own hh ha rfl (by rw [hl,hv])) qw h
def FJ {pl:Sem Bool}{Q:Value×List Value->Shared->Prop}(X:K.In s.heap) (I:eK s.heap x dx C mA) (hg:PySem.W.plainGet K C name=true)
  (hf:PySem.W.findIn K (.ref C) name=some (some (.ref f))) (ht:PySem.W.isFn K (.ref f)=true) (hv:mA name=none) (h:Q (.ref f,[.ref x]) s) :
  wpAny (model prog w) A (getMethod (.ref x) name pl) Q E s:=by
 obtain ⟨od,J,hl⟩:=I.look
 exact PySem.W.method_fn X J (PySem.W.plainGet_of hg).1 (PySem.W.plainGet_of hg).2 hf (beq_iff_eq.mp ht) (by show (PySem.W.lookIn name od).map (·.isSome)=some false;rw [hl,hv];rfl) h
def FK {ns:Ad}{Q:Unit->Shared->Prop}(X:K.In s.heap) (I:eK s.heap x dx C mA)
  (hs:PySem.W.findIn K (.ref C) "__setattr__" = some (some (.builtin "object.__setattr__"))) (hp:PySem.W.plainOver K C=true) (ht:PySem.W.takerIn K C name=some none) (hh:PySem.W.hasDictIn K C=true)
  (hw:PySem.Within mA ns) (hsz:ns.length<=sizeLine)
  (h:∀h',eK h' x dx C (λy=>if y=name then some v else mA y)->Heap.SameBut dx s.heap h'->Q () { s with heap:=h',toks:=s.toks+2 }) :
  wpAny (model prog w) A (setAttr (.ref x) name v) Q E s:=by
 obtain ⟨od,J,hl⟩:=I.look
 refine PySem.W.set_plain X J hs (PySem.W.osa_open (s:={ s with toks:=s.toks+1 }) (r:=none) X J hp ht λb=>?_)
 obtain ⟨cd,hc,aW⟩:=PySem.W.any_some hh
 have hx:s.heap.get? x=some ⟨.ref C,some dx,.plain,#[]⟩:=I.obj
 refine zy (zW (zy (zy (wpAny_loadPart hx (zy (PySem.W.Looks.here (s:={ s with toks:=s.toks+1 }) (PySem.W.looks_clsIn X hc) ?_))))))
 rw [aW]
 refine zW (a:=some dx) (zy (zW (zy ?_)))
 refine wpAny_nsSet1 (s:={ s with toks:=s.toks+1 }) I.ns λh' eo u7=>?_
 obtain ⟨oD,O7,O8,FL,FN,FO⟩:=eo.count (PySem.Within.cons name v hw)
 refine zy (wpAny_lookBehind FL (by rw [FN];exact pastItsLine_dict (yW FO (by rw [yA];omega))) ?_)
 exact zW (h _ ⟨(u7.2 _ (y0 I.ne)).trans I.obj,eo,I.ne⟩ u7)
def FP {R:Result->Shared->Prop}{vs:Af}{kw:List (Str×Value)}(X:K.In s.heap) (hm:PySem.W.makesIn K C=true)
  (hi:PySem.W.findIn K (.ref C) "__init__" = some (some (.ref f))) (hf:PySem.W.typeIn K (.ref f)=some (.type "function"))
  (h:codeAny (model prog w) (A.under (.builtin "type.__call__" ⟨.ref C::vs,kw⟩)) (.call (.ref f) ⟨.ref (s.heap.objs.size+1)::vs,kw⟩) (PySem.W.InitBack (s.heap.objs.size+1) R)
   { s with heap:=(s.heap.push PySem.W.emptyDict).push (PySem.W.instObj C s.heap.objs.size) }) :
  codeAny (model prog w) A (.call (.ref C) ⟨vs,kw⟩) R s:=by
 obtain ⟨hh,g,d,t,os⟩:=s
 exact PySem.W.make_core (PySem.W.makes_of X hm) (PySem.W.looks_findIn X hi) (λself=>PySem.W.bind_fn X self hf) (.inl rfl) h
end
def bJ (f:Str) (v:V):List (Str×V)->List (Str×V)
 |[]=>[(f,v)]
 | (g,x)::r=>if g=f then (g,v)::r else (g,x)::bJ f v r
theorem u9 (f g:Str) (v:V):∀fs:List (Str×V),(bJ f v fs).lookup g=if g=f then some v else fs.lookup g
 |[]=>by
  show List.lookup g [(f,v)]=_
  by_cases h:g=f
  ·have hb:(g==f)=true:=beq_iff_eq.mpr h
   simp only [List.lookup,hb,zj h]
  ·have hb:(g==f)=false:=beq_eq_false_iff_ne.mpr h
   simp only [List.lookup,hb,zx h]
 | (k,x)::r=>by
  have ih:=u9 f g v r
  rw [show bJ f v ((k,x)::r)=(if k=f then (k,v)::r else (k,x)::bJ f v r) from rfl]
  by_cases hk:k=f
  ·rw [zj hk]
   by_cases h:g=k
   ·have hb:(g==k)=true:=beq_iff_eq.mpr h
    simp only [List.lookup,hb,zj (h.trans hk)]
   ·have hb:(g==k)=false:=beq_eq_false_iff_ne.mpr h
    simp only [List.lookup,hb,zx (λe:g=f=>h (e.trans hk.symm))]
  ·rw [zx hk]
   by_cases h:g=k
   ·have hb:(g==k)=true:=beq_iff_eq.mpr h
    simp only [List.lookup,hb,zx (λe:g=f=>hk (h.symm.trans e))]
   ·have hb:(g==k)=false:=beq_eq_false_iff_ne.mpr h
    simp only [List.lookup,hb]
    exact ih
theorem qx (f:Str) (v:V):∀fs:List (Str×V),f∈(bJ f v fs).map (·.1)/\∀g,g∈fs.map (·.1)->g∈(bJ f v fs).map (·.1)
 |[]=>⟨by simp [bJ],λg h=>by simp at h⟩
 | (k,x)::r=>by
  obtain ⟨i1,i2⟩:=qx f v r
  rw [show bJ f v ((k,x)::r)=(if k=f then (k,v)::r else (k,x)::bJ f v r) from rfl]
  by_cases hk:k=f
  ·rw [zj hk]
   subst hk
   exact ⟨by simp,λg h=>by simpa using h⟩
  ·rw [zx hk]
   refine ⟨?_,λg h=>?_⟩
   ·rw [yi]
    exact yd _ i1
   ·rw [yi] at h ⊢
    rcases yn.mp h with e|e
    ·exact yn.mpr (.inl e)
    ·exact yd _ (i2 g e)
theorem u_ (f:Str) (v:V):∀fs:List (Str×V),(bJ f v fs).length<=fs.length+1
 |[]=>by simp [bJ]
 | (k,x)::r=>by
  have ih:=u_ f v r
  rw [show bJ f v ((k,x)::r)=(if k=f then (k,v)::r else (k,x)::bJ f v r) from rfl]
  by_cases hk:k=f
  ·rw [zj hk,yA,yA];omega
  ·rw [zx hk,yA,yA];omega
def bL.some_of {v:V}{o:Option Value}(r:bL (some v) o):∃u,o=some u/\RelV v u:=by
 cases o with
 |none=>exact (show False from r).elim
 |some u=>exact ⟨u,rfl,r⟩
def bL.none_of {o:Option Value}(r:bL none o):o=none:=by
 cases o with
 |none=>rfl
 |some u=>exact (show False from r).elim
def va {v:V}{u:Value}(r:RelV v u):PySem.W.handedIn u=true:=by
 cases v with
 |non=>cases (show u=Value.none from r);rfl
 |bl b=>cases (show u=Value.bool b from r);rfl
 |int i=>obtain ⟨t,e⟩:=(show ∃t,u=Value.int i t from r);cases e;rfl
 |str x=>obtain ⟨t,e⟩:=(show ∃t,u=Value.str x t from r);cases e;rfl
 |byt b=>obtain ⟨t,e⟩:=(show ∃t,u=Value.bytes b t from r);cases e;rfl
 |flt b=>obtain ⟨t,e⟩:=(show ∃t,u=Value.float b t from r);cases e;rfl
 |ref a=>cases (show u=Value.ref a from r);rfl
 |ty n=>cases (show u=Value.type n from r);rfl
section
variable {P:Program} {w:World} {H:Hp} {h:Heap} {a C dx:Addr} {fs:List (Str×V)}
def nU (hok:bI P w H h) (e:H a=some (.ins C dx fs)):∃mA,eK h a dx C mA/\(∀f,bL (fs.lookup f) (mA f))/\PySem.Within mA (fs.map (·.1))/\fs.length<=1000/\H dx=some (.own a):=by
 obtain ⟨d,z,ne,ob,mA,n,r,q⟩:=(show aU P w H h a (.ins C dx fs) from hok a _ e)
 exact ⟨mA,⟨ob,n,ne⟩,r,q,z,d⟩
end
structure du (K:PySem.W.Frag) (C:Addr):Prop where
 pg:PySem.W.plainGet K C Str.empty=true
 hd:PySem.W.hasDictIn K C=true
 po:PySem.W.plainOver K C=true
 sa:PySem.W.findIn K (.ref C) "__setattr__" = some (some (.builtin "object.__setattr__"))
def du.get {K:PySem.W.Frag}{C:Addr}(c:du K C) (f:Str):PySem.W.plainGet K C f=true:=c.pg
def b8 (K:PySem.W.Frag) (C:Addr) (f:Str):Prop:=PySem.W.findIn K (.ref C) f=some none
def b8.taker {K:PySem.W.Frag}{C:Addr}{f:Str}(n:b8 K C f):PySem.W.takerIn K C f=some none:=by
 unfold PySem.W.takerIn
 rw [show PySem.W.findIn K (.ref C) f=some none from n]
 rfl
structure O9 (K:PySem.W.Frag) (C:Addr) (f:Str) (v:V) (u:Value):Prop where
 at_:PySem.W.findIn K (.ref C) f=some (some u)
 rel:RelV v u
 get:PySem.W.specialIn K u "__get__" = some none
 cp:PySem.W.copiedNames.contains f=false
structure Meth (K:PySem.W.Frag) (C:Addr) (m:Str) (f:Addr):Prop where
 at_:PySem.W.findIn K (.ref C) m=some (some (.ref f))
 fn:PySem.W.isFn K (.ref f)=true
 kp:PySem.W.keepIn K (.ref f)=true
section
variable {X:Cx} {pins:Ac} {σ:St} {H:Hp} {s:Shared} {a C dx:Addr} {fs:List (Str×V)} {f:Str} {v:V} {A:Around} {E:Aa}
def vb {b:Bool}{Q:Aa}(I:Inv X pins σ H s) (e:H a=some (.ins C dx fs)) (c:du X.K C) (n:b8 X.K C f) (l:fs.lookup f=some v)
  (h:∀u s',Inv X pins σ H s'->RelV v u->Q u s'):wpAny (model X.prog X.w) A (getAttr (.ref a) f b) Q E s:=by
 obtain ⟨mA,O,r,_,_,_⟩:=nU I.hok e
 obtain ⟨u,hu,ru⟩:=bL.some_of (v:=v) (o:=mA f) (by rw [<-l];exact r f)
 exact FI I.kIn O (c.get f) c.hd n hu (va ru) (h u _ (I.tok _) ru)
def vc {m:Str}{g:Addr}{pl:Sem Bool}{Q:Value×List Value->Shared->Prop}(I:Inv X pins σ H s) (e:H a=some (.ins C dx fs)) (c:du X.K C) (k:Meth X.K C m g) (l:fs.lookup m=none)
  (h:Q (.ref g,[.ref a]) s):wpAny (model X.prog X.w) A (getMethod (.ref a) m pl) Q E s:=by
 obtain ⟨mA,O,r,_,_,_⟩:=nU I.hok e
 have hn:mA m=none:=bL.none_of (by rw [<-l];exact r m)
 exact FJ I.kIn O (c.get m) k.at_ k.fn hn h
def vd {y:V}{u:Value}{Q:Unit->Shared->Prop}(I:Inv X pins σ H s) (e:H a=some (.ins C dx fs)) (c:du X.K C) (n:b8 X.K C f) (hl:fs.length<1000) (ry:RelV y u)
  (h:∀s',Inv X pins σ (upd H a (.ins C dx (bJ f y fs))) s'->Q () s'):wpAny (model X.prog X.w) A (setAttr (.ref a) f u) Q E s:=by
 obtain ⟨mA,O,r,wi,_,ho⟩:=nU I.hok e
 have hz:(fs.map (·.1)).length<=sizeLine:=by rw [yX,sizeLine_eq];omega
 refine FK I.kIn O c.sa c.po n.taker c.hd wi hz λh' O' sb=>h _ ?_
 have hd:∃o,h'.get? dx=some o:=let ⟨o,_,_,e',_⟩:=O'.ns;⟨o,e'⟩
 refine I.write (x:=a) (e:=dx) (by rw [e];exact True.intro) (.inr ho) (λb q hb z=>(sb.2 b hb).trans z) hd ?_
 refine ⟨by rw [zR O.ne];exact ho,?_,O.ne,O'.obj,_,O'.ns,λg=>?_,λg hg=>?_⟩
 ·have:=u_ f y fs;omega
 ·show bL ((bJ f y fs).lookup g) (if g=f then some u else mA g)
  rw [u9]
  by_cases q:g=f
  ·rw [zj q,zj q];exact ry
  ·rw [zx q,zx q];exact r g
 ·by_cases q:g=f
  ·rw [q];exact (qx f y fs).1
  ·refine (qx f y fs).2 g (wi g λz=>hg ?_)
   show (if g=f then some u else mA g)=none
   rw [zx q];exact z
def Inv.made (I:Inv X pins σ H s):Inv X pins σ (upd (upd H s.heap.objs.size (.own (s.heap.objs.size+1))) (s.heap.objs.size+1) (.ins C s.heap.objs.size []))
  { s with heap:=(s.heap.push PySem.W.emptyDict).push (PySem.W.instObj C s.heap.objs.size) }:=by
 have e1:(s.heap.push PySem.W.emptyDict).get? s.heap.objs.size=some PySem.W.emptyDict:=yV s.heap rfl
 have e2:((s.heap.push PySem.W.emptyDict).push (PySem.W.instObj C s.heap.objs.size)).get? (s.heap.objs.size+1)=some (PySem.W.instObj C s.heap.objs.size):=by
  have:=yV (s.heap.push PySem.W.emptyDict) (o:=PySem.W.instObj C s.heap.objs.size) rfl
  rwa [Heap.size_push] at this
 have e3:(s.heap.push PySem.W.emptyDict).Ns s.heap.objs.size (λ_=>none):=⟨PySem.W.emptyDict,#[],_,e1,rfl,(λe he=>absurd he (by simp)),λ_=>rfl⟩
 have I1:=I.laid (a:=s.heap.objs.size) (o:=.own (s.heap.objs.size+1)) (h':=s.heap.push PySem.W.emptyDict) (t':=s.toks) (λb u q=>z8 _ q) (z0 _) ⟨_,e1⟩
 refine I1.laid (a:=s.heap.objs.size+1) (o:=.ins C s.heap.objs.size []) (t':=s.toks) (λb u q=>z8 _ q) (Nat.le_of_eq (Heap.size_push _ _)) ?_
 have ne:s.heap.objs.size≠s.heap.objs.size+1:=yB (wV _)
 refine ⟨by rw [zR ne,yD],jP _,ne,e2,λ_=>none,(Heap.Ns1.of_empty e3).at λo q=>z8 _ q,λ_=>True.intro,λy hy=>absurd rfl hy⟩
def FQ {prog:Program}{w:World}{env:Env}{e:Expr}{f:Str}{pos:Pos}{s:Shared}{Q:Aa}(hb:attributeBase e f env (eval e env)=eval e env)
  (h:wpAny (model prog w) A (eval e env) (λo ag=>wpAny (model prog w) A (getAttr o f true) Q E ag) E s):wpAny (model prog w) A (eval (.Attribute e f pos) env) Q E s :=
 Attribute_any_ h (by rw [arm_eval_Attribute,hb])
end
def sFld (K:PySem.W.Frag) (ta tv:TE) (f:Str):TS:=λD σ H=>tv σ H λy H1=>ta σ H1 λx H2=>∃a C dx fs,x=.ref a/\H2 a=some (.ins C dx fs)/\du K C/\b8 K C f/\fs.length<1000 /\
 D.nx σ (upd H2 a (.ins C dx (bJ f y fs)))
def qb (X:Cx) (op:Operator) (rd:V->V->Hp->VK->Prop):Prop :=
 ∀(pins:Ac) (s:Shared) (σ:St) (H:Hp) (x y:V) (u v:Value) (Q:VK),Inv X pins σ H s->RelV x u->RelV y v->rd x y H Q->wpAny (model X.prog X.w) X.A (inplaceOp op u v) (EP X pins σ Q) X.xe s
def FR (K:PySem.W.Frag) (ta tv:TE) (rd:V->V->Hp->VK->Prop) (f:Str):TS:=λD σ H=>ta σ H λx H1=>∃a C dx fs v,x=.ref a/\H1 a=some (.ins C dx fs)/\du K C/\b8 K C f/\fs.lookup f=some v /\
 tv σ H1 λy H2=>rd v y H2 λz H3=>∃qy gm,H3 a=some (.ins C qy gm)/\gm.length<1000/\D.nx σ (upd H3 a (.ins C qy (bJ f z gm)))
section
variable {X:Cx} {o value:Expr} {f:Str} {pos pos' kA:Pos} {ta tv:TE}
def FT (ha:PE X o ta) (hv:PE X value tv) (hs:swapsWith value (some (.Attribute o f pos')) pos.line X.env=pure false):PS X (.Assign [.Attribute o f pos'] value pos) (sFld X.K ta tv f):=by
 intro pins s σ H D I h
 refine plainObj_wpAny_Assign_Attribute (aO (hv pins s σ H _ I h) λu s1 ⟨y,H1,I1,ry,q⟩=>aO (ha pins s1 σ H1 _ I1 q) λov s2 gg=>?_) hs
 obtain ⟨x,H2,I2,rx,a,C,dx,fs,ex,ea,c,n,l,q2⟩:=gg
 subst ex
 obtain rfl:ov=Value.ref a:=rx
 exact vd I2 ea c n l ry λs3 I3=>⟨σ,_,I3,q2⟩
def FU {op:Operator}{rd:V->V->Hp->VK->Prop}(ha:PE X o ta) (hv:PE X value tv) (FV:qb X op rd):PS X (.AugAssign (.Attribute o f kA) op value pos) (FR X.K ta tv rd f):=by
 intro pins s σ H D I h
 refine wpAny_AugAssign_AttributeAny (aO (ha pins s σ H _ I h) λov s1 gg=>?_)
 obtain ⟨x,H1,I1,rx,a,C,dx,fs,v,ex,ea,c,n,l,q⟩:=gg
 subst ex
 obtain rfl:ov=Value.ref a:=rx
 refine vb I1 ea c n l λu s2 I2 ru=>aO (hv pins s2 σ H1 _ I2 q) λw3 s3 ⟨y,H2,I3,ry,q3⟩=>aO (FV pins s3 σ H2 v y u w3 _ I3 ru ry q3) λw4 s4 ⟨z,H3,I4,rz,qy,gm,FW,l',q4⟩=>?_
 exact vd I4 FW c n l' rz λs5 I5=>⟨σ,_,I5,q4⟩
def FX:V->V->Hp->VK->Prop:=λx y H Q=>∃i j,x=.int i/\y=.int j/\Q (.int (i+j)) H
def FY:qb X .Add FX:=by
 rintro pins s σ H x y u v Q I rx ry ⟨i,j,rfl,rfl,q⟩
 obtain ⟨t,rfl⟩:=(show ∃t,u=Value.int i t from rx)
 obtain ⟨t',rfl⟩:=(show ∃t',v=Value.int j t' from ry)
 exact PyProof.Rows.iadd_int ⟨.int (i+j),H,I.tok _,⟨_,rfl⟩,q⟩
end
section
variable {X:Cx} {pins:Ac} {σ:St} {H:Hp} {s:Shared} {A:Around} {E:Aa} {Q:Aa} {c:Value} {b:Bool}
inductive cj (K:PySem.W.Frag) (H:Hp):V->Value->Prop where
 |non:cj K H .non (.type "NoneType")
 |bl (x:Bool):cj K H (.bl x) (.type "bool")
 |int (i:Int):cj K H (.int i) (.type "int")
 |str (x:Str):cj K H (.str x) (.type "str")
 |flt (x:UInt64):cj K H (.flt x) (.type "float")
 |lst {a:Addr} {xs:List V} (e:H a=some (.lst xs)):cj K H (.ref a) (.type "list")
 |frz {a:Addr} {o:Obj} {xs:List V} (e:H a=some (.frz o (.lst xs))):cj K H (.ref a) (.type "list")
 |tup {a:Addr} {xs:List V} (e:H a=some (.tup xs)):cj K H (.ref a) (.type "tuple")
 |dK {a:Addr} {kvs:List (Key×V)} (e:H a=some (.dK kvs)):cj K H (.ref a) (.type "dict")
 |dT {a:Addr} {kvs:List (List Key×V)} (e:H a=some (.dT kvs)):cj K H (.ref a) (.type "dict")
 | ins {a C dx:Addr} {fs:List (Str×V)} (e:H a=some (.ins C dx fs)) (cl:du K C) (ha:PySem.W.findIn K (.ref C) "__class__" = some (some (.builtin "object.__class__")))
   (hn:PySem.W.specialIn K (.builtin "object.__class__") "__get__" = some (some (.builtin "getset_descriptor.__get__"))) (ve:PySem.W.takesIn K (.builtin "object.__class__")=some true)
   (hm:PySem.W.mroIn K C (.type "object")=some true):cj K H (.ref a) (.ref C)
def qz {x:V}{u t:Value}(I:Inv X pins σ H s) (rx:RelV x u) (ty:cj X.K H x t) (e:PySem.W.kitOne X.K t c=some b) (h:∀tk,Q (.bool b) { s with toks:=tk }) :
  wpAny (model X.prog X.w) A (call (.builtin "isinstance") [u,c]) Q E s:=by
 cases ty with
 |non=>cases (show u=Value.none from rx);exact PySem.W.kia_one PySem.W.kitx_none I.kIn True.intro e (λz=>nomatch z) h
 |bl y=>cases (show u=Value.bool y from rx);exact PySem.W.kia_one PySem.W.kitx_bool I.kIn True.intro e (λz=>nomatch z) h
 |int i=>obtain ⟨t,q⟩:=(show ∃t,u=Value.int i t from rx);cases q;exact PySem.W.kia_one PySem.W.kitx_int I.kIn True.intro e (λz=>nomatch z) h
 |str y=>obtain ⟨t,q⟩:=(show ∃t,u=Value.str y t from rx);cases q;exact PySem.W.kia_one PySem.W.kitx_str I.kIn True.intro e (λz=>nomatch z) h
 |flt y=>obtain ⟨t,q⟩:=(show ∃t,u=Value.float y t from rx);cases q;exact PySem.W.kia_one PySem.W.kitx_float I.kIn True.intro e (λz=>nomatch z) h
 |@lst a xs ea =>
  cases (show u=Value.ref a from rx)
  obtain ⟨_,_,n,_,h1⟩:=(show aU X.prog X.w H s.heap a (.lst xs) from I.hok a _ ea)
  exact PySem.W.kia_one PySem.W.kitx_list I.kIn ⟨_,h1,rfl⟩ e (λz=>nomatch z) h
 |@frz a ob xs ea =>
  cases (show u=Value.ref a from rx)
  obtain ⟨_,_,_,n,_,h1⟩:=(show aU X.prog X.w H s.heap a (.frz ob (.lst xs)) from I.hok a _ ea)
  exact PySem.W.kia_one PySem.W.kitx_list I.kIn ⟨_,h1,rfl⟩ e (λz=>nomatch z) h
 |@tup a xs ea =>
  cases (show u=Value.ref a from rx)
  obtain ⟨_,_,_,p⟩:=(show aU X.prog X.w H s.heap a (.tup xs) from I.hok a _ ea)
  obtain ⟨o,h1,h2,_⟩:=p
  exact PySem.W.kia_one PySem.W.kitx_tuple I.kIn ⟨o,h1,h2⟩ e (λz=>nomatch z) h
 |@dK a kvs ea =>
  cases (show u=Value.ref a from rx)
  obtain ⟨_,_,vs,_,p⟩:=(show aU X.prog X.w H s.heap a (.dK kvs) from I.hok a _ ea)
  obtain ⟨o,es,ep,h1,h2,_⟩:=p
  exact PySem.W.kia_one PySem.W.kitx_dict I.kIn ⟨o,h1,h2.1⟩ e (λz=>nomatch z) h
 |@dT a kvs ea =>
  cases (show u=Value.ref a from rx)
  obtain ⟨_,_,xs,_,o,es,ep,h1,h2,_⟩:=(show aU X.prog X.w H s.heap a (.dT kvs) from I.hok a _ ea)
  exact PySem.W.kia_one PySem.W.kitx_dict I.kIn ⟨o,h1,h2.1⟩ e (λz=>nomatch z) h
 |@ins a C dx fs ea cl ha hn ve hm =>
  cases (show u=Value.ref a from rx)
  obtain ⟨mA,O,_⟩:=nU I.hok ea
  obtain ⟨od,J,_⟩:=O.look
  exact PySem.W.kia_one (PySem.W.kitx_own (cl.get _) cl.hd ha hn ve hm) I.kIn J e (λz=>nomatch z) h
end
structure aY (k:Nat) (A:Around):Prop where
 hd:A.handled=none
 dp:A.depth+3*k+5<recursionLimit
 un:A.units+16*k+200<cLine
def aY.mono {j k:Nat}{A:Around}(r:aY k A) (h:j<=k):aY j A:=⟨r.hd,by have:=r.dp;omega,by have:=r.un;omega⟩
theorem aY.deeper {k:Nat}{A:Around}(r:aY (k+1) A) (env:Env):aY k (A.deeper env) :=
 ⟨r.hd,by have:=r.dp;show A.depth+1+3*k+5<_;omega,by have:=r.un;show A.units+3+16*k+200<_;omega⟩
def FZ {A:Around} {C:Addr} {us:Af} {kw:List (Str×Value)}:(A.under (.builtin "type.__call__" ⟨.ref C::us,kw⟩)).depth=A.depth+1:=by
 first|rfl|simp [Around.under,Code.weight,Code.isCreation,Code.isGuard,Code.isCaller,Code.frames,Code.isFrame,guardIds]
def F0 {A:Around} {C:Addr} {us:Af} {kw:List (Str×Value)}:(A.under (.builtin "type.__call__" ⟨.ref C::us,kw⟩)).units=A.units+1:=by
 first|rfl|simp [Around.under,Code.cUnits,Code.frames,Code.isFrame]
def aY.make {k:Nat} {A:Around} (r:aY (k+1) A) (C:Addr) (us:Af) (kw:List (Str×Value)):aY k (A.under (.builtin "type.__call__" ⟨.ref C::us,kw⟩)) :=
 ⟨r.hd,by have:=r.dp;rw [FZ];omega,by have:=r.un;rw [F0];omega⟩
theorem aY.depth {k:Nat}{A:Around}(r:aY k A):A.depth<recursionLimit:=by have:=r.dp;omega
def vf:TA:=λ_ H Q=>Q [] H
def F4 (ta:TE) (tr:TA):TA:=fun σ H Q=>ta σ H λx H1=>tr σ H1 λxs H2=>Q (x::xs) H2
section
variable {X:Cx} {e:Expr} {es:List Expr} {te:TE} {t:TA} {pos:Pos}
def nV:PA X [] vf:=λ_ _ _ _ H Q I h=>Calls.spliced_nil ⟨[],H,I,.nil,h⟩
def nW (ha:PE X e te) (hr:PA X es t) (hs:starEach (e::es) X.env=(false,eval e X.env)::starEach es X.env:=by rfl):PA X (e::es) (F4 te t):=by
 intro pos pins s σ H Q I h
 rw [hs]
 show wpAny _ _ (spliced ((false,eval e X.env)::backTo pos (starEach es X.env))) _ _ s
 refine Calls.spliced_cons (aO (ha pins s σ H _ I h) λu s1 ⟨x,H1,I1,r1,q1⟩=>?_)
 exact aO (hr pos pins s1 σ H1 _ I1 q1) λus s2 ⟨xs,H2,I2,r2,q2⟩=>⟨x::xs,H2,I2,.cons r1 r2,q2⟩
def F5 (t:TA):TE:=fun σ H Q=>t σ H λxs H1=>xs.length<=sizeLine/\∀p,H1 p=none->Q (.ref p) (upd H1 p (.tup xs))
def F8 (t:TA):TE:=fun σ H Q=>t σ H λxs H1=>xs.length<=sizeLine/\∀p,H1 p=none->Q (.ref p) (upd H1 p (.lst xs))
def F9 {x1}(h:PA X es t):PE X (.Tuple es x1 pos) (F5 t):=by
 intro pins s σ H Q I hq
 refine wpAny_Tuple_spliced (aO (h pos pins s σ H _ I hq) λus s1 ⟨xs,H1,I1,r,z,q⟩=>⟨by rw [<-r.length];exact z,?_⟩)
 have hf:H1 s1.heap.objs.size=none:=I1.hok.fresh (z0 _)
 refine ⟨.ref s1.heap.objs.size,upd H1 s1.heap.objs.size (.tup xs),I1.laid (t':=s1.toks) (λb u e=>z8 _ e) (z0 _) ?_,rfl,q _ hf⟩
 exact ⟨z,us,r,⟨_,yV _ rfl,rfl,_,rfl⟩⟩
def F_ (h:PA X es t):PE X (.List es pos) (F8 t):=by
 intro pins s σ H Q I hq
 refine wpAny_List_spliced (aO (h pos pins s σ H _ I hq) λus s1 ⟨xs,H1,I1,r,z,q⟩=>⟨by rw [<-r.length];exact z,?_⟩)
 have hf:H1 s1.heap.objs.size=none:=I1.hok.fresh (z0 _)
 refine ⟨.ref s1.heap.objs.size,upd H1 s1.heap.objs.size (.lst xs),I1.laid (t':=s1.toks) (λb u e=>z8 _ e) (z0 _) ?_,rfl,q _ hf⟩
 exact ⟨z,us,0,r,yV _ rfl⟩
end
abbrev Sp:=List V->Hp->VK->XK->Prop
abbrev dv:=List Env->Hp->Shared->XK->Aa
structure dH (P:Program) (w:World) (K:PySem.W.Frag) (mg:Ab) (base:Heap) (A:Around) (outer:List Env) (s:Shared) (H:Hp):Prop where
 frames:A.frames=some outer
 mod:Mod K mg base
 bs:∀b o,base.get? b=some o->s.heap.get? b=some o/\H b=none
 bsz:base.objs.size<=s.heap.objs.size
 funs:s.heap.FunFrames base outer
 frf:∀b∈cg outer,H b=none
 hok:bI P w H s.heap
 bare:AllBare s.gens
def CE (outer:List Env) (P:Program) (w:World) (H:Hp) (s:Shared) (Q:VK) (u:Value) (s':Shared):Prop :=
 ∃v H',s'.os=s.os/\AllBare s'.gens/\Un (cg outer) [] H H' s.heap s'.heap/\bI P w H' s'.heap/\RelV v u/\Q v H'
def CR (CX:dv) (outer:List Env) (P:Program) (w:World) (H:Hp) (s:Shared) (Q:VK) (E:XK) (r:Result) (s':Shared):Prop :=
 match r with
 |.ok (.ret u)=>CE outer P w H s Q u s'
 |.ok _=>False
 |.error e=>CX outer H s E e s'
structure bf (P:Program) (w:World) (K:PySem.W.Frag) (mg:Ab) (base:Heap) (CX:dv) (k:Nat) (f:Addr) (fd:FuncData) (ps:Ad) (sp:Sp):Prop where
 len:∀vs H Q E,sp vs H Q E->vs.length=ps.length
 run:∀(A:Around) (outer:List Env) (s:Shared) (H:Hp) (args:Args) (us:Af) (vs:List V) (Q:VK) (E:XK),aY k A->dH P w K mg base A outer s H->BindsTo s fd args (ps.zip us)->Vals vs us->sp vs H Q E ->
  codeAny (model P w) A (.call (.ref f) args) (CR CX outer P w H s Q E) s
theorem bf.mono {P:Program}{w:World}{K:PySem.W.Frag}{mg:Ab}{base:Heap}{CX:dv}{j k:Nat}{f:Addr}{fd:FuncData}{ps:Ad}{sp:Sp}(F:bf P w K mg base CX j f fd ps sp) (h:j<=k) :
  bf P w K mg base CX k f fd ps sp:=⟨F.len,λA outer s H args us vs Q E hr=>F.run A outer s H args us vs Q E (hr.mono h)⟩
def bf.imp {P:Program}{w:World}{K:PySem.W.Frag}{mg:Ab}{base:Heap}{CX:dv}{k:Nat}{f:Addr}{fd:FuncData}{ps:Ad}{sp vg:Sp}(F:bf P w K mg base CX k f fd ps sp)
  (h:∀vs H Q E,vg vs H Q E->sp vs H Q E):bf P w K mg base CX k f fd ps vg :=
 ⟨λvs H Q E q=>F.len vs H Q E (h _ _ _ _ q),λA outer s H args us vs Q E hr he hb hv hs=>F.run A outer s H args us vs Q E hr he hb hv (h _ _ _ _ hs)⟩
def dH.make {P:Program}{w:World}{K:PySem.W.Frag}{mg:Ab}{base:Heap}{A:Around}{outer:List Env}{s:Shared}{H:Hp}(e:dH P w K mg base A outer s H) (C:Addr) (us:Af) (kw:List (Str×Value)) :
  dH P w K mg base (A.under (.builtin "type.__call__" ⟨.ref C::us,kw⟩)) outer s H:=⟨by first|exact e.frames|(simpa [Around.under,Code.envs,Code.isFrame,pushEnvs] using e.frames),e.mod,e.bs,e.bsz,e.funs,e.frf,e.hok,e.bare⟩
section
variable {X:Cx} {pins:Ac} {σ:St} {H:Hp} {s s':Shared}
def Inv.env0 (I:Inv X pins σ H s):dH X.prog X.w X.K X.mg X.base X.A X.stack s H :=
 ⟨I.ok.frames,I.ok.mod,I.bs,yW I.ok.bsz I.sz,I.stack,I.stkFree,I.hok,I.bare⟩
def Inv.after {Q:VK}{u:Value}(I:Inv X pins σ H s) (h:CE X.stack X.prog X.w H s Q u s'):EP X pins σ Q u s':=by
 obtain ⟨v,H',os,bare,un,hok,r,q⟩:=h
 obtain ⟨hh,g,d,t,Ga⟩:=s'
 obtain rfl:Ga=s.os:=os
 exact ⟨v,H',I.call (h':=hh) (g':=g) (d':=d) (t':=t) (ch:=[]) un hok bare (λb z=>absurd z (by simp)),r,q⟩
end
def vh (sp:Sp) (b9:List V) (E:XK) (t:TA):TE:=fun σ H Q=>t σ H λvs H1=>sp (vs++b9) H1 Q E
def Gb (C:Addr) (sp:Sp) (b9:List V) (E:XK) (t:TA):TE:=fun σ H Q=>t σ H λvs H1=>∀x dx,H1 x=none->H1 dx=none->dx≠x ->
 sp (.ref x::(vs++b9)) (upd (upd H1 dx (.own x)) x (.ins C dx [])) (λv H2=>v=.non/\Q (.ref x) H2) E
def Binds (K:PySem.W.Frag) (fd:FuncData) (ps:Ad) (ds:Af):Prop :=
 ∀(s:Shared) (us:Af),K.In s.heap->(us++ds).length=ps.length->BindsTo s fd ⟨us,[]⟩ (ps.zip (us++ds))
def Binds.all {K:PySem.W.Frag}{fd:FuncData}{ps:Ad}(h:∀us:Af,us.length=ps.length->bindArgs fd ⟨us,[]⟩=pure (ps.zip us)):Binds K fd ps []:=λs us _ hl=>by
 rw [List.append_nil] at hl ⊢
 exact .of_eq (h us hl)
def Passes (CX:dv) (X:Cx) (E:XK):Prop:=∀(pins:Ac) (σ:St) (H:Hp) (s:Shared) (e:Value) (s':Shared),Inv X pins σ H s->CX X.stack H s E e s'->X.xe e s'
section
variable {X:Cx} {CX:dv} {k:Nat} {f C:Addr} {fd:FuncData} {ps:Ad} {sp:Sp} {b9:List V} {ds:Af} {E:XK} {x:Str} {p pos:Pos} {e:Expr} {es:List Expr} {t:TA}
def qA {pins:Ac}{σ:St}{H:Hp}{s:Shared}{Q:VK}{us:Af}{vs:List V}(F:bf X.prog X.w X.K X.mg X.base CX k f fd ps sp) (hr:aY k X.A) (hb:Binds X.K fd ps ds) (hd:Vals b9 ds) (hx:Passes CX X E)
  (I:Inv X pins σ H s) (r:Vals vs us) (h:sp (vs++b9) H Q E):wpAny (model X.prog X.w) X.A (call (.ref f) us) (EP X pins σ Q) X.xe s:=by
 have r2:Vals (vs++b9) (us++ds):=r.append hd
 have hl:(us++ds).length=ps.length:=by rw [<-r2.length];exact F.len _ _ _ _ h
 refine wpAny_call (codeAny_mono (F.run X.A X.stack s H ⟨us,[]⟩ (us++ds) (vs++b9) Q E hr I.env0 (hb s us I.kIn hl) r2 h) λr s' hq=>?_)
 cases r with
 |error e=>exact hx pins σ H s e s' I hq
 |ok fl =>
  cases fl with
  |ret u=>exact I.after hq
  |next=>exact hq.elim
  |brk=>exact hq.elim
  |cont=>exact hq.elim
def Gd (F:bf X.prog X.w X.K X.mg X.base CX k f fd ps sp) (hr:aY k X.A) (hg:Gl X x) (hm:X.mg x=some (.ref f)) (hk:PySem.W.keepIn X.K (.ref f)=true) (hb:Binds X.K fd ps ds) (hd:Vals b9 ds) (hx:Passes CX X E)
  (ha:PA X (e::es) t) (bC:(x==("__debug__" : Str))=false:=by decide) (he:starEach (e::es) X.env=(false,eval e X.env)::starEach es X.env:=by rfl) (bj:(backTo pos (starEach es X.env)).any (·.1)=false:=by rfl) :
  PE X (.Call (.Name x p) (e::es) [] pos) (vh sp b9 E t):=by
 intro pins s σ H Q I h
 refine wpAny_Call_Name_kw (gp I hg hm ?_ bC)
 refine PySem.W.callWith_K (h₀:=X.base) I.ok.mod.kin hk (aO (ha pos pins s σ H _ I h) λus s1 ⟨vs,H1,I1,r,q⟩=>⟨I1.kIn,?_⟩) he bj
 exact qA F hr hb hd hx I1 r q
structure Mk (K:PySem.W.Frag) (C f:Addr):Prop where
 makes:PySem.W.makesIn K C=true
 init:PySem.W.findIn K (.ref C) "__init__" = some (some (.ref f))
 fn:PySem.W.isFn K (.ref f)=true
 kp:PySem.W.keepIn K (.ref C)=true
def Ge {pins:Ac}{σ:St}{H:Hp}{s:Shared}{Q:VK}{us:Af}{vs:List V}(M:Mk X.K C f) (F:bf X.prog X.w X.K X.mg X.base CX k f fd ps sp) (hr:aY (k+1) X.A) (hb:Binds X.K fd ps ds) (hd:Vals b9 ds)
  (hx:Passes CX X E) (I:Inv X pins σ H s) (r:Vals vs us)
  (h:∀x dx,H x=none->H dx=none->dx≠x->sp (.ref x::(vs++b9)) (upd (upd H dx (.own x)) x (.ins C dx [])) (λv H2=>v=.non/\Q (.ref x) H2) E) :
  wpAny (model X.prog X.w) X.A (call (.ref C) us) (EP X pins σ Q) X.xe s:=by
 have hq:=h (s.heap.objs.size+1) s.heap.objs.size (I.hok.fresh (Nat.le_succ _)) (I.hok.fresh (z0 _)) (yB (wV _))
 have I2:=Inv.made (C:=C) I
 have r2:Vals (V.ref (s.heap.objs.size+1)::(vs++b9)) (Value.ref (s.heap.objs.size+1)::(us++ds)):=.cons rfl (r.append hd)
 have hl:(Value.ref (s.heap.objs.size+1)::us++ds).length=ps.length:=by
  have e:=r2.length
  rw [F.len _ _ _ _ hq] at e
  exact e.symm
 refine wpAny_call (FP (f:=f) I.kIn M.makes M.init (beq_iff_eq.mp M.fn) (codeAny_mono (F.run _ X.stack _ _ ⟨Value.ref (s.heap.objs.size+1)::us,[]⟩ (Value.ref (s.heap.objs.size+1)::(us++ds)) _ _ E (hr.make C us [])
  (I2.env0.make C us []) (hb _ (Value.ref (s.heap.objs.size+1)::us) I2.kIn hl) r2 hq) λr s' dX=>?_))
 cases r with
 |error e=>exact hx pins σ _ _ e s' I2 dX
 |ok fl =>
  cases fl with
  |ret u =>
   obtain ⟨v,H',I3,rv,ev,q3⟩:=I2.after dX
   subst ev
   exact ⟨rv,⟨V.ref (s.heap.objs.size+1),H',I3,rfl,q3⟩⟩
  |next=>exact dX.elim
  |brk=>exact dX.elim
  |cont=>exact dX.elim
def Gf (M:Mk X.K C f) (F:bf X.prog X.w X.K X.mg X.base CX k f fd ps sp) (hr:aY (k+1) X.A) (hg:Gl X x) (hm:X.mg x=some (.ref C)) (hb:Binds X.K fd ps ds) (hd:Vals b9 ds) (hx:Passes CX X E)
  (ha:PA X (e::es) t) (bC:(x==("__debug__" : Str))=false:=by decide) (he:starEach (e::es) X.env=(false,eval e X.env)::starEach es X.env:=by rfl) (bj:(backTo pos (starEach es X.env)).any (·.1)=false:=by rfl) :
  PE X (.Call (.Name x p) (e::es) [] pos) (Gb C sp b9 E t):=by
 intro pins s σ H Q I h
 refine wpAny_Call_Name_kw (gp I hg hm ?_ bC)
 refine PySem.W.callWith_K (h₀:=X.base) I.ok.mod.kin M.kp (aO (ha pos pins s σ H _ I h) λus s1 ⟨vs,H1,I1,r,q⟩=>⟨I1.kIn,?_⟩) he bj
 exact Ge M F hr hb hd hx I1 r q
end
section
variable {fd:FuncData} {ps ks:Ad}
structure D_ (K:PySem.W.Frag) (fd:FuncData) (ps ks:Ad) (g:List Value->List Value->Af) (gV:List V->List V->List V):Prop where
 to:∀(s:Shared) (us ws:Af),K.In s.heap->(g us ws).length=ps.length->BindsTo s fd ⟨us,ks.zip ws⟩ (ps.zip (g us ws))
 rel:∀{vs:List V} {us:Af} {zs:List V} {ws:Af},Vals vs us->Vals zs ws->Vals (gV vs zs) (g us ws)
end
structure aH (N P:Ad) (sc:Scope):Prop where
 kind:sc.kind=.function
 co:sc.isCoroutine=false
 gen:sc.isGenerator=false
 nd:N.Nodup
 pre:N.take P.length=P
 par:∀x∈P,sc.names.lookup x=some .local\/sc.names.lookup x=some .cell
 nofree:∀y∈sc.names,y.2 ≠ .free
theorem vk {kindOf:Str->Option NameKind}{x:Str}:∀{binds:List (Str×Value)}{m:Ab},(∀v,(x,v)∉binds)->bindL kindOf binds m x=m x
 |[],_,_=>rfl
 | (n,v)::r,m,h=>by
  unfold bindL
  rw [vk λw hw=>h w (yd _ hw)]
  split
  ·have:x≠n:=by rintro rfl;exact h v zY
   simp [this]
  ·rfl
theorem vm {kindOf:Str->Option NameKind}{x:Str}:∀{binds:List (Str×Value)}{m:Ab},(∀v,(x,v)∉binds)->bindC kindOf binds m x=m x
 |[],_,_=>rfl
 | (n,v)::r,m,h=>by
  unfold bindC
  rw [vm λw hw=>h w (yd _ hw)]
  split
  ·rfl
  ·have:x≠n:=by rintro rfl;exact h v zY
   simp [this]
theorem vn {kindOf:Str->Option NameKind}{x:Str}{v:Value}:∀{P:Ad}{vs:Af}{i:Nat}{m:Ab},P.Nodup->P[i]?=some x->vs[i]?=some v->kindOf x=some .local ->
  bindL kindOf (P.zip vs) m x=some v
 |[],_,_,_,_,h,_,_=>by simp at h
 |_::_,[],_,_,_,_,h,_=>by simp at h
 |p::P,w::vs,0,m,nd,h1,h2,hk=>by
  simp at h1 h2;subst h1;subst h2
  show bindL kindOf ((p,w)::P.zip vs) m p=_
  unfold bindL
  rw [vk λv hv=>(wC.mp nd).1 (List.of_mem_zip hv).1,zj hk]
  simp
 |p::P,w::vs,i+1,m,nd,h1,h2,hk=>by
  show bindL kindOf ((p,w)::P.zip vs) m x=_
  unfold bindL
  exact vn (i:=i) (wC.mp nd).2 (by simpa using h1) (by simpa using h2) hk
theorem vo {kindOf:Str->Option NameKind}{x:Str}{v:Value}:∀{P:Ad}{vs:Af}{i:Nat}{m:Ab},P.Nodup->P[i]?=some x->vs[i]?=some v->kindOf x≠some .local ->
  bindC kindOf (P.zip vs) m x=some v
 |[],_,_,_,_,h,_,_=>by simp at h
 |_::_,[],_,_,_,_,h,_=>by simp at h
 |p::P,w::vs,0,m,nd,h1,h2,hk=>by
  simp at h1 h2;subst h1;subst h2
  show bindC kindOf ((p,w)::P.zip vs) m p=_
  unfold bindC
  rw [vm λv hv=>(wC.mp nd).1 (List.of_mem_zip hv).1,zx hk]
  simp
 |p::P,w::vs,i+1,m,nd,h1,h2,hk=>by
  show bindC kindOf ((p,w)::P.zip vs) m x=_
  unfold bindC
  exact vo (i:=i) (wC.mp nd).2 (by simpa using h1) (by simpa using h2) hk
def start (N:Ad) (vs:List V):St:=vs.map some++List.replicate (N.length-vs.length) none
def cG (CX:dv) (P:Program) (w:World) (K:PySem.W.Frag) (mg:Ab) (base:Heap) (N:Ad) (qual:Str) (scope:Scope) (f:Addr) (cd:Value) (A:Around) (outer:List Env) (s:Shared) (H:Hp) (E:XK):Cx where
 prog:=P
 w:=w
 K:=K
 mg:=mg
 base:=base
 A:=A.deeper (envOfC qual scope s.heap.objs.size f cd)
 N:=N
 s₀:=s
 H₀:=H
 env:=envOfC qual scope s.heap.objs.size f cd
 outer:=outer
 stack:=envOfC qual scope s.heap.objs.size f cd::outer
 ex:=[]
 calm:=true
 fn:=λ_=>true
 pn:=[]
 xe:=λe s'=>wpAny (model P w) (A.deeper (envOfC qual scope s.heap.objs.size f cd)) (leaving (envOfC qual scope s.heap.objs.size f cd) e) (λ_ qC=>CX outer H s E e qC) (λe' qC=>CX outer H s E e' qC) s'
def vp {sc:Scope}{n:Nat}{x:Str}(h:sc.names.lookup x=some .cell):∃c,(cellsFrom n sc.names []).lookup x=some c:=by
 have q:=PySem.W.cellsFrom_some sc.names n [] (.inl h)
 exact Option.isSome_iff_exists.mp q
def vq {CX:dv}{P:Program}{w:World}{K:PySem.W.Frag}{mg:Ab}{base:Heap}{N ps:Ad}{qual:Str}{scope:Scope}{f:Addr}{cd:Value}{A:Around}{outer:List Env}{s s1:Shared}{H:Hp}{E:XK}{us:Af}{vs:List V}
  (S:aH N ps scope) (hd:A.handled=none) (e0:dH P w K mg base A outer s H) (hl:vs.length=ps.length) (r:Vals vs us)
  (x:InCallC s s.heap.objs.size (bindL (envOfC qual scope s.heap.objs.size f cd).kindOf (ps.zip us) λ_=>none) (cellsFrom (s.heap.objs.size+1) scope.names []) (bindC (envOfC qual scope s.heap.objs.size f cd).kindOf (ps.zip us) λ_=>none) s1) :
  Inv (cG CX P w K mg base N qual scope f cd A outer s H E) [] (start N vs) H s1:=by
 have bj:ps.length<=N.length:=by have:=congrArg List.length S.pre;rw [List.length_take] at this;omega
 obtain ⟨h1,tk,rfl,hk⟩:=x.done
 have l_:∀b:Addr,b∉(cG CX P w K mg base N qual scope f cd A outer s H E).ex:=λb z=>absurd (show b∈([]:Ae) from z) (by simp)
 refine ⟨⟨e0.mod,S.kind,rfl,rfl,z0 _,λy z c h1 h2=>?_,λy hy=>?_,λy c _ h=>?_,λ_=>hd,Around.frames_deeper e0.frames,.inr ⟨rfl,rfl⟩,λb z=>absurd z (l_ b),e0.bs,e0.bsz,λb _ _=>l_ b,λb z=>absurd z (l_ b),e0.funs,e0.frf⟩,
  rfl,e0.bare,Un.kept hk,⟨_,x.toInCall.ns,λi y v h1 h2 h3=>?_⟩,λy c h=>⟨_,x.cell y c h⟩,e0.hok.fresh (z0 _),λy c h=>?_,λp hp=>absurd (show p∈([]:Ac) from hp) (by simp),e0.hok.kept hk,?_⟩
 ·exact name_of_addr x.apart (PySem.mem_of_lookup h1) (PySem.mem_of_lookup h2)
 ·have hy:scope.names.lookup y=some .cell\/scope.names.lookup y=some .free:=hy
  rcases hy with hy|hy
  ·exact vp hy
  ·exact absurd rfl (S.nofree _ (PySem.mem_of_lookup hy))
 ·exact Nat.le_of_lt (x.above y c (PySem.mem_of_lookup h))
 ·have hi:i<vs.length:=by
   unfold start at h2
   by_cases hi:i<vs.length
   ·exact hi
   ·rw [hV (by simpa using hi)] at h2
    rw [List.getElem?_replicate] at h2
    split at h2<;>cases h2
  have ha:vs[i]?=some v:=by
   unfold start at h2
   rw [gj (by simpa using hi),y7] at h2
   cases e:vs[i]? with
   |none=>rw [e] at h2;cases h2
   |some a=>rw [e] at h2;cases h2;rfl
  obtain ⟨u,hu,rv⟩:=r.get ha
  have hp:ps[i]?=some y:=by
   rw [<-S.pre,List.getElem?_take_of_lt (by omega)];exact h1
  have vr:ps.Nodup:=by rw [<-S.pre];exact S.nd.sublist (List.take_sublist _ _)
  refine ⟨u,rv,?_⟩
  rcases S.par y (jy hp) with k|k
  ·exact .inl ⟨k,vn vr hp hu k⟩
  ·obtain ⟨c,e⟩:=vp (n:=s.heap.objs.size+1) k
   refine .inr ⟨.inl k,c,e,?_⟩
   have q:=x.cell y c e
   rw [vo vr hp hu (by show scope.names.lookup y≠_;rw [k];decide)] at q
   exact q
 ·exact e0.hok.fresh (Nat.le_of_lt (x.above y c (PySem.mem_of_lookup h)))
 ·unfold start
  show _=N.length
  rw [jc,yX,List.length_replicate]
  omega
def Gg {CX:dv}{P:Program}{w:World}{K:PySem.W.Frag}{mg:Ab}{base:Heap}{k:Nat}{f:Addr}{name qual:Str}{params:Arguments}{body:List Stmt}{scope:Scope}{dV kV doc pm aQ ct oc:Value}{an od:Option Addr}
  {dI:Array (Option Value)} {N ps:Ad} {sp:Sp} (lk:K.lookup f=some ⟨oc,od,.func (PySem.W.fnOf name qual params body scope dV kV doc pm an aQ ct),dI⟩) (dU:PySem.W.codeIn K aQ qual=true) (S:aH N ps scope)
  (len:∀vs H Q E,sp vs H Q E->vs.length=ps.length)
  (dw:∀(A:Around) (outer:List Env) (s:Shared) (H:Hp) (vs:List V) (Q:VK) (E:XK),aY k (A.deeper (envOfC qual scope s.heap.objs.size f aQ))->sp vs H Q E ->
   ∃t,b6 (cG CX P w K mg base N qual scope f aQ A outer s H E) body t/\t { nx:=λ_ H'=>Q .non H',rt:=Q } (start N vs) H) :
  bf P w K mg base CX (k+1) f (PySem.W.fnOf name qual params body scope dV kV doc pm an aQ ct) ps sp:=by
 refine ⟨len,λA outer s H args us vs Q E hr e0 hb r eL=>?_⟩
 have hl:=len _ _ _ _ eL
 have KX:K.In s.heap:=e0.mod.kin.keeps λb o e=>(e0.bs b o e).1
 have lim:s.heap.NoLimit:=e0.mod.nolimit.keeps λb o e=>(e0.bs b o e).1
 have qD:∀y∈ps.zip us,scope.names.lookup y.1=some .local\/(scope.names.lookup y.1=some .cell/\((cellsFrom (s.heap.objs.size+1) scope.names []).lookup y.1).isSome=true):=λ⟨n,v⟩ hy=>by
  rcases S.par n (List.of_mem_zip hy).1 with q|q
  ·exact .inl q
  ·exact .inr ⟨q,PySem.W.cellsFrom_some _ _ _ (.inl q)⟩
 refine codeAny_call_function hr.depth (KX _ _ lk) rfl S.co S.gen rfl (PySem.W.codeRec_of KX dU) (hb _ _ _ _ ?_)
 refine wpAny_newFunctionEnv_cells S.kind qD λenv he s1 x=>?_
 subst he
 refine ⟨lim.keeps x.toInCall.keep,codeAny_func ?_⟩
 obtain ⟨t,ht,hq⟩:=dw A outer s H vs Q E (hr.deeper _) eL
 have I:Inv (cG CX P w K mg base N qual scope f aQ A outer s H E) [] (start N vs) H s1:=vq S hr.hd e0 hl r x
 refine yM (ht [] s1 (start N vs) H _ I hq) (λfl s' hs=>?_) λe s' hs=>hs
 have fin:∀{σ':St} {H':Hp} {v:V} {u:Value},Inv (cG CX P w K mg base N qual scope f aQ A outer s H E) [] σ' H' s'->RelV v u->Q v H'->CE outer P w H s Q u s' :=
  λ{σ' H' v u} J rv q=>⟨v,H',J.os,J.bare,J.base,J.hok,rv,q⟩
 cases fl with
 |ret u =>
  obtain ⟨v,σ',H',J,rv,q⟩:=hs
  exact fin J rv q
 |next =>
  obtain ⟨σ',H',J,q⟩:=hs
  exact fin (v:=V.non) (u:=Value.none) J rfl q
 |brk =>
  obtain ⟨_,_,_,q⟩:=hs
  exact q.elim
 |cont =>
  obtain ⟨_,_,_,q⟩:=hs
  exact q.elim
section
variable {X:Cx} {x:Str} {p pos:Pos} {e:Expr} {es:List Expr} {t:TA} {id T:String} {r:List V->Hp->VK->Prop}
def vt (r:List V->Hp->VK->Prop) (t:TA):TE:=fun σ H Q=>t σ H λvs H1=>r vs H1 Q
def Gh (hc:bq X (.builtin id) r) (hg:Gl X x) (hm:X.mg x=none) (hv:bootBuiltins x=some (.builtin id)) (ha:PA X (e::es) t) (hn:x ≠ "__name__" := by decide) (bC:(x==("__debug__" : Str))=false:=by decide)
  (he:starEach (e::es) X.env=(false,eval e X.env)::starEach es X.env:=by rfl) (bj:(backTo pos (starEach es X.env)).any (·.1)=false:=by rfl):PE X (.Call (.Name x p) (e::es) [] pos) (vt r t):=by
 intro pins s σ H Q I h
 refine wpAny_Call_Name_kw (lV I hg hm hv ?_ hn bC)
 exact PyProof.Rows.callWith_builtin1 (aO (ha pos pins s σ H _ I h) λus s1 ⟨vs,H1,I1,r1,q1⟩=>hc pins s1 σ H1 vs us Q I1 r1 q1) he bj
def Gi (hc:bq X (.type T) r) (hg:Gl X x) (hm:X.mg x=none) (hv:bootBuiltins x=some (.type T)) (ha:PA X (e::es) t) (hn:x ≠ "__name__" := by decide) (bC:(x==("__debug__" : Str))=false:=by decide)
  (he:starEach (e::es) X.env=(false,eval e X.env)::starEach es X.env:=by rfl) (bj:(backTo pos (starEach es X.env)).any (·.1)=false:=by rfl):PE X (.Call (.Name x p) (e::es) [] pos) (vt r t):=by
 intro pins s σ H Q I h
 refine wpAny_Call_Name_kw (lV I hg hm hv ?_ hn bC)
 exact PyProof.Rows.callWith_type1 (aO (ha pos pins s σ H _ I h) λus s1 ⟨vs,H1,I1,r1,q1⟩=>hc pins s1 σ H1 vs us Q I1 r1 q1) he bj
end
end L2
namespace HT
open PySem PyProof.Rows
section
open PySem.SeqAt
open PySem.AutoSeq1 (wpAny_loadPart')
open PySem.MeetsSeq PySem.MeetsSeq2 PySem.MeetsSeq3
end
section
variable {prog:Program} {w:World} {A:Around} {E:Aa} {s:Shared}
def cat_tup {t b:Addr}{vs ws:Af}{Q:Aa}(ht:IsTup s.heap t vs.toArray) (hb:IsTup s.heap b ws.toArray) (hv:vs≠[])
  (h1:ws=[]->Q (.ref t) s) (h2:ws≠[]->Q (.ref s.heap.objs.size) { s with heap:=s.heap.push { cls:=.type "tuple", data:=.seq (vs++ws).toArray } })
  (hsz:vs.length+ws.length<=sizeLine):wpAny (model prog w) A (binaryOp .Add (.ref t) (.ref b)) Q E s:=by
 obtain ⟨⟨cls,dd,data,sl⟩,ho,hc,n,hd⟩:=id ht
 obtain ⟨⟨vv,nX,data2,nY⟩,h9,ma,n2,hd2⟩:=id hb
 simp only at hc hd ma hd2
 subst hc hd ma hd2
 have e:vs.toArray++ws.toArray=(vs++ws).toArray:=by simp
 by_cases hw:ws=[]
 ·exact concat_meets ⟨_,ho,rfl⟩ ⟨_,h9,rfl⟩ noFill_tuple_add seq_tuple_add PySem.F.slot_tuple_add PySem.F.entry_tuple_add (PySem.F.args_tuple_add_2 _ _)
   (tuple_addW1 t b vs.toArray ws.toArray n n2 dd nX sl nY (by simpa using hv) (by simp [hw])) ⟨ho,h9,h1 hw⟩
 ·refine concat_meets ⟨_,ho,rfl⟩ ⟨_,h9,rfl⟩ noFill_tuple_add seq_tuple_add PySem.F.slot_tuple_add PySem.F.entry_tuple_add (PySem.F.args_tuple_add_2 _ _)
   (tuple_addW2 t b vs.toArray ws.toArray n n2 dd nX sl nY (by simpa using hv) (by simpa using hw) (by rw [yO,yO];exact hsz)) ⟨ho,h9,?_⟩
  rw [e]
  exact h2 hw
def sIx (n d:Nat):Option Int->Nat
 |none=>d
 |some v=>if v<0 then (v+(n:Int)).toNat else min v.toNat n
def Gj (n d:Nat) (hd:d<=n) (o:Option Int):sIx n d o<=n:=by
 cases o with
 |none=>exact hd
 |some v =>
  show (if v<0 then (v+(n:Int)).toNat else min v.toNat n)<=n
  by_cases hv:v<0
  ·rw [zj hv];omega
  ·rw [zx hv];exact Nat.min_le_right _ _
def vx (v:Int) (n d:Nat):(if v<0 then max (v+(n:Int)) 0 else min v (n:Int))=((sIx n d (some v):Nat):Int):=by
 show (if v<0 then max (v+(n:Int)) 0 else min v (n:Int))=(((if v<0 then (v+(n:Int)).toNat else min v.toNat n):Nat):Int)
 by_cases hv:v<0
 ·simp only [zj hv];omega
 ·simp only [zx hv];omega
def Gk (lo hi:Option Int) (n:Nat):Builtin.Slice.sliceAdjust lo hi 1 (n:Int)=(((sIx n 0 lo:Nat):Int),((sIx n n hi:Nat):Int)):=by
 have h1:¬((1:Int)<0):=by omega
 unfold Builtin.Slice.sliceAdjust
 simp only [h1,if_false]
 refine Prod.ext ?_ ?_
 ·cases lo with
  |none=>rfl
  |some v=>exact vx v n 0
 ·cases hi with
  |none=>rfl
  |some v=>exact vx v n n
def Gm (i j:Nat):Builtin.Slice.slicePlaces (i:Int) (j:Int) 1=j-i:=by
 unfold Builtin.Slice.slicePlaces
 have h1:(1:Int)>0:=by omega
 simp only [h1,jH,Int.ediv_one]
 split<;>omega
def vy {v:Value}{o:Option Int}{Q:Option Int->Shared->Prop}(p:IsPart v o) (h:Q o s):wpAny (model prog w) A (Builtin.Slice.slicePartIndex v) Q E s:=by
 cases p with
 |none=>exact slicePart_none h
 |int i t=>exact slicePart_int h
def vz {sl:Addr}{vl vu:Value}{lo hi:Option Int}{n:Nat}{Q:Int×Int×Nat->Shared->Prop}(hs:s.heap.IsSliceOf sl vl vu .none) (pl:IsPart vl lo) (pu:IsPart vu hi)
  (h:Q (((sIx n 0 lo:Nat):Int),1,sIx n n hi-sIx n 0 lo) s):wpAny (model prog w) A (Builtin.Slice.sliceApplied (.ref sl) (pure (n:Int))) Q E s:=by
 obtain ⟨os,h_,nZ,ia⟩:=id hs
 unfold Builtin.Slice.sliceApplied Builtin.Slice.sliceFields
 refine zy (zy (wS h_ ia (x:=vl) rfl (zy (wS h_ ia (x:=vu) rfl (zy (wS h_ ia (x:=.none) rfl (zW ?_)))))))
 refine zy (slicePart_none ?_)
 show wpAny _ _ (if ((1:Int)==0)=true then _ else _) _ _ s
 rw [zx (by decide)]
 refine zy (vy pl (zy (vy pu (zy (zW ?_)))))
 show wpAny _ _ (match Builtin.Slice.sliceAdjust lo hi 1 (n:Int) with|(lo,hi)=>pure (lo,(1:Int),Builtin.Slice.slicePlaces lo hi 1)) _ _ s
 rw [Gk lo hi n]
 show wpAny _ _ (pure (((sIx n 0 lo:Nat):Int),(1:Int),Builtin.Slice.slicePlaces ((sIx n 0 lo:Nat):Int) ((sIx n n hi:Nat):Int) 1)) _ _ s
 rw [Gm]
 exact zW h
def Gn (xs:Array Value) (i k:Nat):((List.range k).filterMap λ(m:Nat)=>xs[((i:Int)+(m:Int)*1).toNat]?).toArray=((xs.toList.drop i).take k).toArray:=by
 have e:(λ(m:Nat)=>xs[((i:Int)+(m:Int)*1).toNat]?)=λm=>xs[i+m]?:=by
  funext m
  have:((i:Int)+(m:Int)*1).toNat=i+m:=by omega
  rw [this]
 rw [e]
 have:=pick_run xs i k
 rw [List.filterMap_map] at this
 have e2:((λx=>xs[x]?)∘λx=>i+x)=λm=>xs[i+m]?:=rfl
 rw [e2] at this
 rw [this]
def getItem_tuple_cut {t sl:Addr}{items:Array Value}{vl vu:Value}{lo hi:Option Int}{Q:Aa}(ht:IsTup s.heap t items) (hs:s.heap.IsSliceOf sl vl vu .none) (pl:IsPart vl lo) (pu:IsPart vu hi)
  (hw:¬(sIx items.size 0 lo=0/\sIx items.size items.size hi=items.size))
  (h:Q (.ref s.heap.objs.size) { s with heap:=s.heap.push { cls:=.type "tuple", data:=.seq ((items.toList.drop (sIx items.size 0 lo)).take (sIx items.size items.size hi-sIx items.size 0 lo)).toArray } })
  (hsz:items.size<=sizeLine):wpAny (model prog w) A (getItem (.ref t) (.ref sl)) Q E s:=by
 have fM:sizeOk (.seq ((items.toList.drop (sIx items.size 0 lo)).take (sIx items.size items.size hi-sIx items.size 0 lo)).toArray):=by
  show ((items.toList.drop (sIx items.size 0 lo)).take (sIx items.size items.size hi-sIx items.size 0 lo)).toArray.size<=sizeLine
  rw [yO,List.length_take,List.length_drop,Array.length_toList]
  omega
 have hj:sIx items.size items.size hi<=items.size:=Gj _ _ (z0 _) hi
 obtain ⟨os,h_,nZ,ia⟩:=id hs
 have qE:s.TypeIs (.ref sl) "slice" := ⟨os,h_,nZ⟩
 unfold getItem
 try with_reducible refine fI ?_
 first|refine zy (zW ?_)|skip
 refine zy (wpAny_sequenceKey ht.typeIs (by decide) ?_)
 refine zy (wpAny_callSpecial?_slot (name:=Str.ofString "__getitem__") ht.typeIs PyProof.Rows.slot_tuple_getitem
  (wpAny_call_entry PyProof.Rows.slot_tuple_getitem ht.typeIs entry_tuple_getitem ?_ (args_tuple_getitem _ _)))
 show wpAny _ _ (Builtin.Tuple.tupleItemsOf (.ref t) >>= _) _ _ s
 refine zy (tupleItemsOf_ ht ?_)
 refine zy (wpAny_typeOf qE ?_)
 rw [zj (by decide)]
 refine zy (vz hs pl pu ?_)
 have Gp:¬((((sIx items.size 0 lo:Nat):Int)==0&&(1:Int)==1&&(sIx items.size items.size hi-sIx items.size 0 lo)==items.size)=true):=by
  intro q
  rw [yC,yC] at q
  have q1:((sIx items.size 0 lo:Nat):Int)=0:=eq_of_beq q.1.1
  have q2:sIx items.size items.size hi-sIx items.size 0 lo=items.size:=eq_of_beq q.2
  exact hw ⟨by omega,by omega⟩
 show wpAny _ _ (if (((sIx items.size 0 lo:Nat):Int)==0&&(1:Int)==1&&(sIx items.size items.size hi-sIx items.size 0 lo)==items.size)=true then _ else _) _ _ s
 rw [zx Gp,Gn]
 first
  |exact zy (m:=Builtin.Tuple.tupleExact _) (hG (zW ⟨_,rfl,zW h⟩) fM)
  |exact zy (m:=Builtin.Tuple.tupleExact _) (hG (zy (zW (zW ⟨_,rfl,zW h⟩))) fM)
  |exact zy (zy (m:=Builtin.Tuple.tupleExact _) (hG (zW (zW ⟨_,rfl,zW h⟩)) fM))
  |exact zy (zy (m:=Builtin.Tuple.tupleExact _) (hG (zW ⟨_,rfl,zW h⟩) fM))
end
end HT
namespace L2
open PySem PySem.Spec PyProof.Rows
abbrev TO:=St->Hp->(Option Int->Hp->Prop)->Prop
def PO (X:Cx) (e:Option Expr) (t:TO):Prop :=
 ∀(pins:Ac) (s:Shared) (σ:St) (H:Hp) (Q:Option Int->Hp->Prop),Inv X pins σ H s->t σ H Q ->
  wpAny (model X.prog X.w) X.A (evalPart e X.env) (λu s'=>∃o H',Inv X pins σ H' s'/\IsPart u o/\Q o H') X.xe s
def Gq:TO:=λ_ H Q=>Q none H
def Gr (t:TE):TO:=fun σ H Q=>t σ H λx H1=>∃i,x=.int i/\Q (some i) H1
section
variable {X:Cx} {e:Expr} {te:TE} {lo hi:Option Expr} {tl th:TO} {pos p2:Pos}
def Gs:PO X none Gq:=by
 intro pins s σ H Q I h
 rw [evalPart_none]
 exact zW ⟨none,H,I,.none,h⟩
def Gu (h:PE X e te):PO X (some e) (Gr te):=by
 intro pins s σ H Q I hw
 rw [evalPart_some]
 refine aO (h pins s σ H _ I hw) λu s1 ⟨x,H1,I1,r1,q1⟩=>?_
 obtain ⟨i,rfl,q⟩:=q1
 obtain ⟨t,rfl⟩:=r1
 exact ⟨some i,H1,I1,.int i t,q⟩
def fN (X:Cx) (r:V->Option Int->Option Int->Hp->VK->Prop):Prop :=
 ∀(pins:Ac) (s:Shared) (σ:St) (H:Hp) (x:V) (v vl vu:Value) (lo hi:Option Int) (sl:Addr) (Q:VK),Inv X pins σ H s->RelV x v->s.heap.IsSliceOf sl vl vu .none->IsPart vl lo->IsPart vu hi->r x lo hi H Q ->
  ∃T id,typeLookup (.type T) "__getitem__" = pure (some (.builtin id))/\s.TypeIs v T/\wpAny (model X.prog X.w) X.A (getItem v (.ref sl)) (EP X pins σ Q) X.xe s
def fN.or {r r':V->Option Int->Option Int->Hp->VK->Prop}(h:fN X r) (h':fN X r'):fN X (λx lo hi H Q=>r x lo hi H Q\/r' x lo hi H Q):=by
 intro pins s σ H x v vl vu lo hi sl Q I rx hs pl pu q
 rcases q with q|q
 ·exact h pins s σ H x v vl vu lo hi sl Q I rx hs pl pu q
 ·exact h' pins s σ H x v vl vu lo hi sl Q I rx hs pl pu q
def Gv (r:V->Option Int->Option Int->Hp->VK->Prop) (te:TE) (tl th:TO):TE:=fun σ H Q=>te σ H λx H1=>tl σ H1 λl H2=>th σ H2 λu H3=>r x l u H3 Q
def Gw {r:V->Option Int->Option Int->Hp->VK->Prop}(hr:fN X r) (he:PE X e te) (hl:PO X lo tl) (hu:PO X hi th):PE X (.Subscript e (.Slice lo hi none p2) pos) (Gv r te tl th):=by
 intro pins s σ H Q I h
 refine Subscript_ (aO (he pins s σ H _ I h) λv s1 ⟨x,H1,I1,r1,q1⟩=>?_)
 refine wpAny_Slice (aO (hl pins s1 σ H1 _ I1 q1) λvl s2 ⟨l,H2,I2,pl,q2⟩=>aO (hu pins s2 σ H2 _ I2 q2) λvu s3 ⟨u,H3,I3,pu,q3⟩=>?_)
 rw [evalPart_none]
 refine zW ?_
 have I4:Inv X pins σ H3 { s3 with heap:=s3.heap.push { cls:=.type "slice", data:=.fields #[vl,vu,.none] } }:=I3.kept (t':=s3.toks) λb ob q=>z8 _ q
 obtain ⟨T,id,hT,ht,hg⟩:=hr pins { s3 with heap:=s3.heap.push { cls:=.type "slice", data:=.fields #[vl,vu,.none] } } σ H3 x v vl vu l u s3.heap.objs.size Q I4 r1 (Heap.IsSliceOf.new ..) pl pu q3
 show wpAny (model X.prog X.w) X.A (subscriptTail e (.Slice lo hi none p2) v (.ref s3.heap.objs.size)) (EP X pins σ Q) X.xe { s3 with heap:=s3.heap.push { cls:=.type "slice", data:=.fields #[vl,vu,.none] } }
 exact tail_any (ops:=[.ref s3.heap.objs.size,v]) ht hT hg (by with_unfolding_all rfl)
def d5 (xs:List V) (lo hi:Option Int):List V:=(xs.drop (HT.sIx xs.length 0 lo)).take (HT.sIx xs.length xs.length hi-HT.sIx xs.length 0 lo)
def vA (xs:List V) (lo hi:Option Int):(d5 xs lo hi).length<=xs.length:=by
 unfold d5
 rw [List.length_take,List.length_drop]
 omega
def Gx (K:PySem.W.Frag):V->Option Int->Option Int->Hp->VK->Prop:=λx lo hi H Q=>∃a xs,x=.ref a/\bK K H a xs /\
 ¬(HT.sIx xs.length 0 lo=0/\HT.sIx xs.length xs.length hi=xs.length)/\∀p,H p=none->Q (.ref p) (upd H p (.tup (d5 xs lo hi)))
def Gy:fN X (Gx X.K):=by
 intro pins s σ H x v vl vu lo hi sl Q I rx hs pl pu h
 obtain ⟨a,xs,rfl,hx,hw,q⟩:=h
 cases rx
 obtain ⟨its,r,ht,hz⟩:=I.tuple hx
 have hlen:its.toArray.size=xs.length:=by rw [yO];exact r.length.symm
 refine ⟨"tuple", _,PyProof.Rows.slot_tuple_getitem.lookup,ht.typeIs,?_⟩
 refine HT.getItem_tuple_cut ht hs pl pu (by rw [hlen];exact hw) ?_ (by rw [hlen];exact hz)
 rw [hlen]
 refine ⟨.ref s.heap.objs.size,_,I.laid (t':=s.toks) (o:=.tup (d5 xs lo hi)) (λb ob q=>z8 _ q) (z0 _) ?_,rfl,q _ (I.hok.fresh (z0 _))⟩
 exact ⟨yW (vA xs lo hi) hz,_,(r.drop (HT.sIx xs.length 0 lo)).take (HT.sIx xs.length xs.length hi-HT.sIx xs.length 0 lo),IsTup.new _ _⟩
def GA (K:PySem.W.Frag):R2:=λx y H Q=>∃a b xs ys,x=.ref a/\y=.ref b/\bK K H a xs/\bK K H b ys/\xs≠[]/\xs.length+ys.length<=sizeLine /\
 (ys=[]->Q (.ref a) H)/\(ys≠[]->∀p,H p=none->Q (.ref p) (upd H p (.tup (xs++ys))))
def Vals.nil_iff {xs:List V}{us:Af}(r:Vals xs us):us=[]↔xs=[]:=by
 cases r with
 |nil=>simp
 |cons _ _=>simp
def GB:bb X (binaryOp .Add) (GA X.K):=by
 intro pins s σ H x y v u Q I rx ry h
 obtain ⟨a,b,xs,ys,rfl,rfl,ha,hb,hx,hz,q1,q2⟩:=h
 cases rx
 cases ry
 obtain ⟨its,r1,p1,_⟩:=I.tuple ha
 obtain ⟨c7,r2,p2,_⟩:=I.tuple hb
 refine HT.cat_tup p1 p2 (λz=>hx (r1.nil_iff.mp z)) (λz=>⟨.ref a,H,I,rfl,q1 (r2.nil_iff.mp z)⟩) (λz=>?_) (by rw [<-r1.length,<-r2.length];exact hz)
 refine ⟨.ref s.heap.objs.size,_,I.laid (t':=s.toks) (o:=.tup (xs++ys)) (λb ob q=>z8 _ q) (z0 _) ?_,rfl,q2 (λw=>z (r2.nil_iff.mpr w)) _ (I.hok.fresh (z0 _))⟩
 exact ⟨by rw [jc];exact hz,_,r1.append r2,IsTup.new _ _⟩
end
def kR (n:Nat) (i:Int):Option Nat:=if 0<=i then (if i<n then some i.toNat else none) else if -(n:Int)<=i then some (i+n).toNat else none
def cN {U:Type}(xs:List U) (i:Int):Option U:=(kR xs.length i).bind λj=>xs[j]?
def GC {n:Nat}{i:Int}{j:Nat}(h:kR n i=some j):seqIndex? i n=some j/\j<n /\ -(n:Int)<=i/\i<n:=by
 unfold kR at h
 by_cases h0:0<=i
 ·rw [zj h0] at h
  by_cases h1:i<n
  ·rw [zj h1] at h
   have e:i.toNat=j:=Option.some.inj h
   exact ⟨by rw [seqIndex_of h0 h1,e],by omega,by omega,h1⟩
  ·rw [zx h1] at h;cases h
 ·rw [zx h0] at h
  by_cases h1 : -(n:Int)<=i
  ·rw [zj h1] at h
   have e:(i+n).toNat=j:=Option.some.inj h
   exact ⟨by rw [seqIndex_neg (by omega) h1,e],by omega,h1,by omega⟩
  ·rw [zx h1] at h;cases h
def bO {U:Type}{xs:List U}{i:Int}{v:U}(h:cN xs i=some v):∃j,seqIndex? i xs.length=some j/\xs[j]?=some v/\j<xs.length /\ -(xs.length:Int)<=i/\i<xs.length:=by
 unfold cN at h
 cases e:kR xs.length i with
 |none=>rw [e] at h;cases h
 |some j =>
  rw [e] at h
  obtain ⟨h1,h2,h3,h4⟩:=GC e
  exact ⟨j,h1,h,h2,h3,h4⟩
def eM (b:Expr):Prop:=∀o i,subscripted b false o i=operate [o,i] (getItem o i)
def eA (X:Cx) (r:R2):Prop :=
 ∀(value slice:Expr) (pins:Ac) (s:Shared) (σ:St) (H:Hp) (x y:V) (v u:Value) (Q:VK),Inv X pins σ H s->RelV x v->RelV y u->r x y H Q ->
  subscripted slice false v u=operate [v,u] (getItem v u)->wpAny (model X.prog X.w) X.A (subscriptTail value slice v u) (EP X pins σ Q) X.xe s
def vB (X:Cx) (id:String) (r:V->List V->Hp->VK->Prop):Prop :=
 ∀(pins:Ac) (s:Shared) (σ:St) (H:Hp) (x:V) (xs:List V) (v:Value) (us:Af) (Q:VK),Inv X pins σ H s->RelV x v->Vals xs us->r x xs H Q ->
  wpAny (model X.prog X.w) X.A (call (.builtin id) (v::us)) (EP X pins σ Q) X.xe s
section
variable {X:Cx} {a b:Expr} {ta tb:TE} {pos:Pos}
def eA.or {r r':R2}(h:eA X r) (h':eA X r'):eA X (λx y H Q=>r x y H Q\/r' x y H Q):=by
 intro value slice pins s σ H x y v u Q I rx ry q hs
 rcases q with q|q
 ·exact h value slice pins s σ H x y v u Q I rx ry q hs
 ·exact h' value slice pins s σ H x y v u Q I rx ry q hs
def GD {r:R2}(hr:eA X r) (ha:PE X a ta) (hb:PE X b tb) (hs:eM b):PE X (.Subscript a b pos) (l6 r ta tb):=by
 intro pins s σ H Q I h
 exact Subscript_ (l7 ha hb I h λv u s2 x y H2 I2 rx ry q=>hr a b pins s2 σ H2 x y v u Q I2 rx ry q (hs _ _))
def vC (K:PySem.W.Frag):R2:=λx y H Q=>∃p xs i v,x=.ref p/\y=.int i/\a_ K H p xs/\cN xs i=some v/\Q v H
def vD (K:PySem.W.Frag):R2:=λx y H Q=>∃p xs i v,x=.ref p/\y=.int i/\bK K H p xs/\cN xs i=some v/\Q v H
def vE:R2:=λx y H Q=>∃z i c,x=.str z/\y=.int i/\z.length<=sizeLine/\cN z.cps.toList i=some c/\Q (.str ⟨#[c]⟩) H
def GF:eA X (vC X.K):=by
 intro value slice pins s σ H x y v u Q I rx ry h hs
 obtain ⟨p,xs,i,z,rfl,rfl,hq,he,q⟩:=h
 cases rx
 obtain ⟨t,rfl⟩:=ry
 obtain ⟨its,r,pl,hz⟩:=I.list hq
 obtain ⟨j,h1,h2,h3,h4,h5⟩:=bO he
 obtain ⟨w,ew,ck⟩:=r.get h2
 have hl:=r.length
 have hn:=nS
 have fin:EP X pins σ Q w s:=⟨z,H,I,ck,q⟩
 by_cases h0:0<=i
 ·have hj:i.toNat=j:=by
   rw [seqIndex_of h0 h5] at h1
   exact Option.some.inj h1
  exact item_listR pl.isList h0 (by omega) (by rw [hj];simpa using ew) fin hs
 ·have hj:(i+(its.toArray.size:Int)).toNat=j:=by
   rw [seqIndex_neg (by omega) h4] at h1
   rw [yO,<-hl]
   exact Option.some.inj h1
  exact subscriptTail_builtinR (x:=w) pl.isList.typeIs slot_list_getitem.lookup
   (wpAny_getItem_list_neg (Q:=λr s'=>r=w/\EP X pins σ Q r s') pl.isList (by omega) (by rw [yO]<;>omega) (by omega) (by rw [hj];simpa using ew) ⟨rfl,fin⟩) hs
def GG:eA X (vD X.K):=by
 intro value slice pins s σ H x y v u Q I rx ry h hs
 obtain ⟨p,xs,i,z,rfl,rfl,hq,he,q⟩:=h
 cases rx
 obtain ⟨t,rfl⟩:=ry
 obtain ⟨its,r,pl,hz⟩:=I.tuple hq
 obtain ⟨j,h1,h2,h3,h4,h5⟩:=bO he
 obtain ⟨w,ew,ck⟩:=r.get h2
 have hl:=r.length
 have hn:=nS
 have fin:EP X pins σ Q w s:=⟨z,H,I,ck,q⟩
 exact subscriptTail_builtinR (x:=w) pl.typeIs slot_tuple_getitem.lookup
  (getItem_tuple (j:=j) (Q:=λr s'=>r=w/\EP X pins σ Q r s') pl (by omega) (by omega) (by rw [yO,<-hl];exact h1) (by simpa using ew) ⟨rfl,fin⟩) hs
def cB:eA X vE:=by
 intro value slice pins s σ H x y v u Q I rx ry h hs
 obtain ⟨z,i,c,rfl,rfl,hz,he,q⟩:=h
 obtain ⟨t,rfl⟩:=rx
 obtain ⟨t',rfl⟩:=ry
 obtain ⟨j,h1,h2,h3,h4,h5⟩:=bO he
 have hl:z.cps.toList.length=z.length:=by simp [Str.length]
 rw [hl] at h1 h4 h5
 have hn:=nS
 exact tail_any (typeIs_str s z t) slot_str_getitem.lookup (getItem_str (c:=c) (by
  have e1:decide (i < -(2 ^ 63:Int))=false:=js (by omega)
  have e2:decide (i>=2 ^ 63)=false:=js (by omega)
  rw [e1,e2,Bool.or_false]) (by rw [h1];simpa using h2) ⟨.str ⟨#[c]⟩,H,I.tok _,⟨_,rfl⟩,q⟩) hs
def GH (K:PySem.W.Frag):R2:=λx y H Q=>vC K x y H Q\/vD K x y H Q\/vE x y H Q
def GI:eA X (GH X.K):=GF.or (GG.or cB)
theorem Inv.lst {pins:Ac}{σ:St}{H:Hp}{s:Shared}{p:Addr}{xs:List V}(I:Inv X pins σ H s) (h:H p=some (.lst xs)) :
  ∃(its:Af) (n:Nat),Vals xs its/\s.heap.get? p=some { cls:=.type "list", data:=.seq its.toArray n }/\xs.length<=sizeLine:=by
 obtain ⟨z,its,n,r,e⟩:=I.hok p _ h
 exact ⟨its,n,r,e,z⟩
def GJ (lo hi:Option Int) (n:Nat):(sliceBounds lo hi none n).1=((HT.sIx n 0 lo:Nat):Int)/\(sliceBounds lo hi none n).2.1=((HT.sIx n n hi:Nat):Int)/\(sliceBounds lo hi none n).2.2=1:=by
 refine ⟨?_,?_,rfl⟩
 ·cases lo with
  |none=>simp [sliceBounds,HT.sIx]
  |some i =>
   simp only [sliceBounds,HT.sIx,Option.getD_none,show (1:Int)>0 by decide,jH]
   by_cases h:i<0
   ·simp only [h,jH]<;>omega
   ·simp only [h,if_false]<;>omega
 ·cases hi with
  |none=>simp [sliceBounds,HT.sIx]
  |some i =>
   simp only [sliceBounds,HT.sIx,Option.getD_none,show (1:Int)>0 by decide,jH]
   by_cases h:i<0
   ·simp only [h,jH]<;>omega
   ·simp only [h,if_false]<;>omega
def GK (its:Af) (lo hi:Option Int):slicePick its.toArray lo hi none=((its.drop (HT.sIx its.length 0 lo)).take (HT.sIx its.length its.length hi-HT.sIx its.length 0 lo)).toArray:=by
 obtain ⟨h1,h2,h3⟩:=GJ lo hi its.toArray.size
 unfold slicePick
 rw [h1,h2,h3]
 simp only [sliceRange_one,pick_run,yO]<;>rfl
def GL (K:PySem.W.Frag):V->Option Int->Option Int->Hp->VK->Prop:=λx lo hi H Q=>∃a xs,x=.ref a/\a_ K H a xs/\∀p,H p=none->Q (.ref p) (upd H p (.lst (d5 xs lo hi)))
def GN:fN X (GL X.K):=by
 intro pins s σ H x v vl vu lo hi sl Q I rx hs pl pu h
 obtain ⟨a,xs,rfl,hx,q⟩:=h
 cases rx
 obtain ⟨its,r,ht,hz⟩:=I.list hx
 have hlen:=r.length
 refine ⟨"list", _,slot_list_getitem.lookup,ht.isList.typeIs,?_⟩
 refine wpAny_getItem_list_slice ht.isList hs pl pu .none (by simp) ?_ (by rw [yO]<;>omega)
 rw [GK,<-hlen]
 refine ⟨.ref s.heap.objs.size,_,I.laid (t':=s.toks) (o:=.lst (d5 xs lo hi)) (λb ob q=>z8 _ q) (z0 _) ?_,rfl,q _ (I.hok.fresh (z0 _))⟩
 exact ⟨yW (vA xs lo hi) hz,_,0,(r.drop (HT.sIx xs.length 0 lo)).take (HT.sIx xs.length xs.length hi-HT.sIx xs.length 0 lo),yV _ rfl⟩
def bq.or {f:Value}{r r':List V->Hp->VK->Prop}(h:bq X f r) (h':bq X f r'):bq X f (λxs H Q=>r xs H Q\/r' xs H Q):=by
 intro pins s σ H xs us Q I rs q
 rcases q with q|q
 ·exact h pins s σ H xs us Q I rs q
 ·exact h' pins s σ H xs us Q I rs q
def GO:bq X (.type "tuple") (λxs H Q=>∃p ys,xs=[.ref p]/\((a_ X.K H p ys/\∀l,H l=none->Q (.ref l) (upd H l (.tup ys)))\/(bK X.K H p ys/\Q (.ref p) H))):=by
 intro pins s σ H xs us Q I r h
 obtain ⟨p,ys,rfl,h⟩:=h
 obtain ⟨u,rfl,rx⟩:=hZ r
 cases rx
 rcases h with ⟨hq,q⟩|⟨hq,q⟩
 ·obtain ⟨its,r',pl,hz⟩:=I.list hq
  have hlen:=r'.length
  refine call_tuple_list pl.isList (λh' kp=>?_) (by simp only [yO]<;>omega)
  have I1:Inv X pins σ H { s with heap:=h' }:=I.kept (t':=s.toks) kp
  have I2:Inv X pins σ (upd H h'.objs.size (.tup ys)) { s with heap:=h'.push { cls:=.type "tuple", data:=.seq its.toArray } } :=
   I1.laid (t':=s.toks) (λb o e=>z8 _ e) (z0 _) (show aU X.prog X.w _ _ _ (.tup ys) from ⟨hz,its,r',IsTup.new _ _⟩)
  exact ⟨.ref h'.objs.size,_,I2,rfl,q _ (I1.hok.fresh (z0 _))⟩
 ·obtain ⟨its,r',pl,hz⟩:=I.tuple hq
  exact call_tuple_same pl ⟨.ref p,H,I,rfl,q⟩
def vF (K:PySem.W.Frag) (T:String) (x:V) (H:Hp):Prop:=match x with
 |.str _=>T = "str"
 |.int _=>T = "int"
 | .ref p=>(T = "list" /\ ∃xs,a_ K H p xs)\/(T = "tuple" /\ ∃o,K.lookup p=some o/\o.cls=.type "tuple" /\ o.dict=none) \/
   (T = "dict" /\ ((∃kvs,H p=some (.dK kvs))\/∃kvs,H p=some (.dT kvs)))\/(T = "set" /\ ∃S n,H p=some (.set S n))
 |_=>False
def qF {pins:Ac}{σ:St}{H:Hp}{s:Shared}{T:String}{x:V}{v:Value}(I:Inv X pins σ H s) (r:RelV x v) (ty:vF X.K T x H) :
  s.TypeIs v T/\∀a,v=.ref a->∃ob,s.heap.get? a=some ob/\ob.dict=none:=by
 cases x with
 |str z =>
  obtain ⟨t,rfl⟩:=r
  cases (show T = "str" from ty)
  exact ⟨typeIs_str s z t,λ_ e=>nomatch e⟩
 |int i =>
  obtain ⟨t,rfl⟩:=r
  cases (show T = "int" from ty)
  exact ⟨typeIs_int s i t,λ_ e=>nomatch e⟩
 |ref p =>
  cases r
  rcases ty with ⟨rfl,xs,hq⟩|⟨rfl,o,hk,hc,hd⟩|⟨rfl,hk⟩|⟨rfl,S,n,hk⟩
  ·obtain ⟨its,_,pl,_⟩:=I.list hq
   refine ⟨pl.isList.typeIs,λa e=>?_⟩
   cases e
   obtain ⟨o,n,e,c,hd,_⟩:=pl
   exact ⟨o,e,hd⟩
  ·refine ⟨⟨o,I.kIn p o hk,hc⟩,λa e=>?_⟩
   cases e
   exact ⟨o,I.kIn _ o hk,hd⟩
  ·have z:∃o,s.heap.get? p=some o/\o.ExactDict:=by
    rcases hk with ⟨kvs,hk⟩|⟨kvs,hk⟩
    ·obtain ⟨_,_,_,_,o,_,_,e,ex,_⟩:=I.hok p _ hk
     exact ⟨o,e,ex⟩
    ·obtain ⟨_,_,_,_,o,_,_,e,ex,_⟩:=I.hok p _ hk
     exact ⟨o,e,ex⟩
   obtain ⟨o,e,ex⟩:=z
   refine ⟨⟨o,e,ex.1⟩,λa e2=>?_⟩
   cases e2
   exact ⟨o,e,ex.2.1⟩
  ·obtain ⟨o,_,_,_,e,ex,_⟩:=I.hok p _ hk
   refine ⟨⟨o,e,ex.1⟩,λa e2=>?_⟩
   cases e2
   exact ⟨o,e,ex.2.1⟩
 |_=>exact ty.elim
def GP (K:PySem.W.Frag) (T:String) (r:V->List V->Hp->VK->Prop) (to:TE) (t:TA):TE:=fun σ H Q=>to σ H λx H1=>vF K T x H1/\t σ H1 λxs H2=>r x xs H2 Q
variable {o e:Expr} {es:List Expr} {to:TE} {t:TA} {name:Str} {apos aS:Pos} {T id:String} {r:V->List V->Hp->VK->Prop}
def qG (pa:PlainAttrs T) (slot:Slot T name id) (kS:typeOf (.builtin id)=pure (.type "method_descriptor")) (hm:vB X id r) (ho:PE X o to) (ha:PA X (e::es) t)
  (br:attributeBase o name X.env (eval o X.env)=eval o X.env:=by rfl)
  (eO:((backTo aS (starEach (e::es) X.env)).all (λx=>!x.1)&&(backToKw aS (keywordEach [] X.env)).all (λx=>x.1.isSome)
   && decide ((e::es).length+([]:List Keyword).length+(if ([]:List Keyword).isEmpty then 0 else 1)<30))=true:=by rfl)
  (cm:(apos.endLine==aS.line)=true:=by rfl) (hs:starEach (e::es) X.env=(false,eval e X.env)::starEach es X.env:=by rfl) (n8:(backTo aS (starEach es X.env)).any (·.1)=false:=by rfl) :
  PE X (.Call (.Attribute o name apos) (e::es) [] aS) (GP X.K T r to t):=by
 intro pins s σ H Q I h
 refine wpAny_Call_method_late br eO cm rfl (aO (ho pins s σ H _ I h) λv s1 ⟨x,H1,I1,r1,ty,q1⟩=>?_)
 obtain ⟨h1,h2⟩:=qF I1 r1 ty
 refine ⟨T,id,pa,slot,kS,h1,h2,?_⟩
 have hA:=ha aS pins s1 σ H1 _ I1 q1
 rw [hs] at hA ⊢
 refine Calls.callWith_builtin (by show (false||(backTo aS (starEach es X.env)).any (·.1))=false;rw [n8]<;>rfl) (Calls.evalArgs_plain ?_)
 exact aO hA λus s2 ⟨vs,H2,I2,r2,q2⟩=>hm pins s2 σ H2 x vs v us Q I2 r1 r2 q2
end
def vG (X:Cx) (id:String) (r:V->List V->Hp->VK->Prop):Prop :=
 ∀(pins:Ac) (s:Shared) (σ:St) (H:Hp) (x:V) (xs:List V) (v:Value) (us:Af) (Q:VK),Inv X pins σ H s->RelV x v->Vals xs us->r x xs H Q ->
  wpAny (model X.prog X.w) X.A (call (.builtin id) (v::us)) (EP X pins σ Q) X.xe s
def Vals.one:∀{x:V}{us:Af},Vals [x] us->∃u,us=[u]/\RelV x u
 |_,_,.cons r .nil=>⟨_,rfl,r⟩
theorem Vals.eraseIdx:∀{xs:List V}{us:Af}(i:Nat),Vals xs us->Vals (xs.eraseIdx i) (us.eraseIdx i)
 |_,_,_,.nil=>.nil
 |_,_,0,.cons _ t=>t
 |_,_,i+1,.cons r t=>.cons r (Vals.eraseIdx i t)
theorem Vals.reverse {xs:List V}{us:Af}(h:Vals xs us):Vals xs.reverse us.reverse:=by
 induction h with
 |nil=>exact .nil
 |cons r t ih=>rw [List.reverse_cons,List.reverse_cons];exact Vals.append ih (.cons r .nil)
theorem vH {U:Type}:∀(l:List U) (i:Nat),(l.eraseIdx i).length<=l.length
 |[],_=>z0 _
 |_::_,0=>Nat.le_succ _
 |_::r,i+1=>Nat.succ_le_succ (vH r i)
section
variable {X:Cx} {pins:Ac} {σ:St} {H:Hp} {s:Shared} {l:Addr} {xs ys:List V}
def Inv.lset {its its':Af}{n:Nat}{f:Array Value->Array Value}{t':Nat}(I:Inv X pins σ H s) (hH:H l=some (.lst xs))
  (e:s.heap.get? l=some { cls:=.type "list", data:=.seq its.toArray n }) (hf:f its.toArray=its'.toArray) (hv:Vals ys its') (hz:ys.length<=sizeLine) :
  Inv X pins σ (upd H l (.lst ys)) { s with heap:=s.heap.update l (Obj.mapSeq f),toks:=t' }:=by
 have q:=PySem.IsL.update e f
 rw [hf] at q
 refine I.write (x:=l) (e:=l) (by rw [hH];exact trivial) (.inl rfl) (λb' u hb hu=>(wT s.heap (Obj.mapSeq f) (y0 hb)).trans hu) ⟨_,q⟩ ?_
 exact ⟨hz,its',_,hv,q⟩
def Inv.lnew {its:Af}{t':Nat}(I:Inv X pins σ H s) (hv:Vals ys its) (hz:ys.length<=sizeLine) :
  Inv X pins σ (upd H s.heap.objs.size (.lst ys)) { s with heap:=s.heap.push { cls:=.type "list", data:=.seq its.toArray },toks:=t' } :=
 I.laid (λ_ _ q=>z8 _ q) (z0 _) ⟨hz,its,0,hv,yV _ rfl⟩
theorem Inv.fresh (I:Inv X pins σ H s):H s.heap.objs.size=none:=I.hok.fresh (z0 _)
def Inv.lstM (I:Inv X pins σ H s) (hH:H l=some (.lst xs)):xs.length<=sizeLine/\∃(its:Af) (n:Nat),Vals xs its/\xs.length=its.length/\s.heap.get? l=some { cls:=.type "list", data:=.seq its.toArray n }:=by
 obtain ⟨z,its,n,r,e⟩:=I.hok l _ hH
 exact ⟨z,its,n,r,r.length,e⟩
end
section
variable {X:Cx}
def GQ:V->List V->Hp->VK->Prop:=λx vs H Q=>∃l xs y,x=.ref l/\vs=[y]/\H l=some (.lst xs)/\xs.length<sizeLine/\Q .non (upd H l (.lst (xs++[y])))
def zmM:vG X "list.append" GQ:=by
 intro pins s σ H x vs v us Q I rx rv h
 obtain ⟨l,xs,y,rfl,rfl,hH,hz,q⟩:=h
 cases rx
 obtain ⟨u,rfl,ru⟩:=rv.one
 obtain ⟨z,its,n,r,hl,e⟩:=I.lstM hH
 refine call_meets F.slot_list_append ⟨_,e,rfl⟩ F.entry_list_append (F.args_list_append_2 _ _) (PySem.list_append l its.toArray n u (by rw [yO];omega)) ⟨e,?_⟩
 refine ⟨.non,_,I.lset (its':=its++[u]) hH e (by simp) (r.append (.cons ru .nil)) ?_,rfl,q⟩
 rw [jc,qk]
 omega
def GR:V->List V->Hp->VK->Prop:=λx vs H Q=>∃l xs i k y,x=.ref l/\vs=[.int i]/\H l=some (.lst xs) /\ -(2 ^ 63)<=i/\i<2 ^ 63/\seqIndex? i xs.length=some k/\xs[k]?=some y/\Q y (upd H l (.lst (xs.eraseIdx k)))
def GS:vG X "list.pop" GR:=by
 intro pins s σ H x vs v us Q I rx rv h
 obtain ⟨l,xs,i,k,y,rfl,rfl,hH,h1,h2,hk,hy,q⟩:=h
 cases rx
 obtain ⟨u,rfl,ru⟩:=rv.one
 obtain ⟨t,rfl⟩:=ru
 obtain ⟨z,its,n,r,hl,e⟩:=I.lstM hH
 obtain ⟨w,hw,ck⟩:=r.get hy
 refine call_meets F.slot_list_pop ⟨_,e,rfl⟩ F.entry_list_pop (F.args_list_pop_2 _ _)
  (MeetsSeq.list_pop_at l its.toArray n i t k w (fitsIndex_both h1 h2) (by rw [yO,<-hl];exact hk) (by rw [<-Array.getElem?_toList];exact hw) (by rw [yO];omega)) ⟨e,?_⟩
 refine ⟨y,_,I.lset (its':=its.eraseIdx k) hH e ?_ (r.eraseIdx k) ?_,ck,q⟩
 ·show its.toArray.eraseIdxIfInBounds k=(its.eraseIdx k).toArray
  rw [List.eraseIdxIfInBounds_toArray]
 ·have:=vH xs k
  omega
def GU:R2:=λx y H Q=>∃l b xs zs,x=.ref l/\y=.ref b/\H l=some (.lst xs)/\H b=some (.lst zs)/\xs.length+zs.length<=sizeLine/\∀p,H p=none->Q (.ref p) (upd H p (.lst (xs++zs)))
def GV:bb X (binaryOp .Add) GU:=by
 intro pins s σ H x y v u Q I rx ry h
 obtain ⟨l,b,xs,zs,rfl,rfl,hH,hB,hz,q⟩:=h
 cases rx
 cases ry
 obtain ⟨z,its,n,r,hl,e⟩:=I.lstM hH
 obtain ⟨z2,c7,n2,r2,eP,e2⟩:=I.lstM hB
 refine PySem.P.add_list e e2 ?_ (by rw [yO,yO];omega)
 have ea:its.toArray++c7.toArray=(its++c7).toArray:=by simp
 rw [ea]
 exact ⟨.ref _,_,I.lnew (t':=s.toks) (r.append r2) (by rw [jc];omega),rfl,q _ I.fresh⟩
end
end L2
namespace Att
open PySem PySem.W PySem.Calls PyProof.Rows
def GW {P:Params}{h:Heap}:∀(ns:List Int) (vs:Af),WellAll P h vs (ns.map WData.int)->IntsAre vs ns:=by
 intro ns
 induction ns with
 |nil =>
  intro vs w
  rw [List.map_nil] at w
  cases w
  exact .nil
 |cons n ns ih =>
  intro vs w
  rw [yi] at w
  cases w with
  |cons a b =>
   cases a
   exact .cons _ _ (ih _ b)
def GX {l:OpenLaw}{n:Nat}(hn:l.most=some n) {P:Params}{h:Heap}{args:List WData}{vals:Af}
  (kB:l.row.toRowW.claim.pre args=true) (hwl:WellAll P h vals args) :
  ∃a vs ns,vals=[Value.ref a]/\args=[WData.list (ns.map WData.int)]/\h.get? a=some { cls:=.type "list", data:=.seq vs.toArray }/\IntsAre vs ns/\ns.length<=n:=by
 have GY:WShape.hasAll [] args [.list .int]=true:=(pre_splitW kB).1
 have hc:l.pre.holds [] { args:=args }=true:=(pre_splitW kB).2
 obtain ⟨d,r,rfl,h1,h2⟩:=hasAllW_cons GY
 obtain rfl:=hasAllW_nil h2
 obtain ⟨xs,rfl,h3⟩:=hasW_list h1
 obtain ⟨ns,rfl⟩:=items_int h3
 have hlen:ns.length<=n:=by
  unfold OpenLaw.pre at hc
  have h4:(WTm.not (.lt (.lit (.int (n:Int))) (.len (.arg 0)))).holds [] { args:=[.list (ns.map .int)] }=true:=by
   have h4:=(holds_andW hc).1
   rw [hn] at h4
   exact h4
  have h5:=condW_of h4 (w_not (w_lt w_lit (w_len_list (w_arg rfl))))
  rw [yX] at h5
  refine Nat.le_of_not_lt λq=>?_
  have q':(n:Int)<((ns.length:Nat):Int):=by omega
  first
   | (rw [wf q'] at h5;exact absurd h5 (by decide))
   | (simp at h5;omega)
 cases hwl with
 |cons w1 w2 =>
  cases w2
  cases w1 with
  |list ho dr=>exact ⟨_,_,ns,rfl,rfl,ho,GW ns _ dr,hlen⟩
def GZ (l:OpenLaw) (args:List WData):l.row.toRowW.claim.post args (.bool true) args=true :=
 postW_of (r:=l.row.toRowW) (X:=(true==true))
  (show WShape.has [] (.bool true) .bool=true by first|rfl|decide|simp [WShape.has,WShape.arms,WShape.armsAll])
  (show (WTm.eq .res (.lit (.bool true))).value [] { args:=args,res:=some (.bool true),after:=args }=some (.bool (true==true)) from w_eq_bool (w_res rfl) w_lit) rfl
def attach_call {l:OpenLaw}{n:Nat}{q:Program}{loose:Ad}{XP:(Ab)->Heap->Prop}{YP:World->Heap->Prop}{d:DefRec}
  (hn:l.most=some n) (md:d.params.defaults=[])
  (call:∀(w:World) (s₀ ag:Shared) (mg mb:Ab) (fa:Addr) (o:Obj) (pm cd doc:Value) (a:Addr) (vs:Af) (ns:List Int),
   Ground q loose [] XP w s₀ mg mb ag.heap->YP w ag.heap ->
   ag.heap.get? fa=some o->o.data=.func (docDef d.name d.params d.body d.scope pm cd doc)->ag.heap.CodeRec cd d.name->mg d.name=some (.ref fa) ->
   ag.heap.get? a=some { cls:=.type "list", data:=.seq vs.toArray }->IntsAre vs ns->ns.length<=n->ag.gens=#[] ->
   codeAny (model l.prog w) callerA (.call (.ref fa) ⟨[.ref a],[]⟩) (λr s'=>r=.ok (.ret (.bool true))/\OldK ag.heap s'.heap/\s'.os=ag.os/\AllBare s'.gens) ag) :
  WalkO q loose XP YP l.row.toRowW d [] (λf vs=>PySem.call f vs):=by
 intro w s₀ ag mg mb G Y fa o pm cd doc dV kV ho hd dU hD hmg hg args vals as kB hlay hrd hwl hlo
 obtain rfl:dV=.none:=Dflts.none hD md
 obtain rfl:kV=.none:=Dflts.noKw hD
 obtain ⟨a,vs,ns,rfl,rfl,mf,hints,hlen⟩:=GX hn kB hwl
 refine enter_call (codeAny_mono (call w s₀ ag mg mb fa o pm cd doc a vs ns G Y ho (fd_plain hd) dU hmg mf hints hlen hg) λr s' hq=>?_)
 obtain ⟨rfl,h2,h3,h4⟩:=hq
 exact ⟨.inl ⟨.bool true,.bool true,[],rfl,λ_=>rfl,.bool true,GZ l _,λ_=>⟨List.Pairwise.nil,λ_ hm=>(nomatch hm)⟩⟩,h2,h3,h4⟩
end Att
namespace L2
open PySem PySem.Spec PyProof.Rows
theorem vI:∀{vs:Af}{ns:List Int},IntsAre vs ns->Vals (ns.map V.int) vs
 |_,_,.nil=>.nil
 |_,_,.cons n t h=>.cons ⟨t,rfl⟩ (vI h)
def Only (H:Hp):Prop:=∀b,H b=none\/∃o xs,H b=some (.frz o (.lst xs))
def G4 {P:Program}{w:World}{K:PySem.W.Frag}{mg mb:Ab}{CX:dv}{k:Nat}{fa a:Addr}{fd:FuncData}{x:Str}{sp:Sp}{ag:Shared}{vs:Af}{ns:List Int}
  (KX:K.In ag.heap) (vJ:ag.heap.Ns mainGlobals mg) (hb:ag.heap.Ns builtinsNs mb) (kT:∀x:Str,x ≠ "__name__" -> mb x=bootBuiltins x) (vK:ag.heap.NoLimit) (hg:ag.gens=#[])
  (ha:ag.heap.get? a=some { cls:=.type "list", data:=.seq vs.toArray }) (hi:IntsAre vs ns) (hl:ns.length<=sizeLine) (hr:aY k callerA)
  (F:∀base:Heap,K.In base->base.Ns mainGlobals mg->bf P w K mg base CX k fa fd [x] sp) (qH:∀(s:Shared) (u:Value),BindsTo s fd ⟨[u],[]⟩ [(x,u)])
  (eL:∀H:Hp,Only H->a_ K H a (ns.map V.int)->sp [.ref a] H (λv _=>v=.bl true) λ_ _ _=>False)
  (qI:∀H e s',CX [] H ag (λ_ _ _=>False) e s'->False) :
  codeAny (model P w) callerA (.call (.ref fa) ⟨[.ref a],[]⟩) (λr s'=>r=.ok (.ret (.bool true))/\OldK ag.heap s'.heap/\s'.os=ag.os/\AllBare s'.gens) ag:=by
 have rv:=vI hi
 have vL:=hi.length
 have core:∀H:Hp,Only H->a_ K H a (ns.map V.int)->bI P w H ag.heap->(∀b,H b≠none->b=a)->(H a≠none->K.lookup a=none) ->
   codeAny (model P w) callerA (.call (.ref fa) ⟨[.ref a],[]⟩) (λr s'=>r=.ok (.ret (.bool true))/\OldK ag.heap s'.heap/\s'.os=ag.os/\AllBare s'.gens) ag:=by
  intro H hO hS hok hA hK
  have gu:∀{b:Addr} {o:Obj},ag.heap.get? b=some o->H b=none->(dF ag.heap H).get? b=some o:=λe n=>El e n
  have l_:∀{b:Addr} {o:Obj} {es:Array DictEntry} {ep:Nat},ag.heap.get? b=some o->o.data=.dict es ep->H b=none:=λ{b o es ep} e d=>by
   cases q:H b with
   |none=>rfl
   |some u =>
    have e':b=a:=hA b (by rw [q];simp)
    subst e'
    rw [ha] at e;cases e
    have d':Data.seq vs.toArray _=Data.dict es ep:=d
    cases d'
  have n9:∀{b:Addr} {m:Ab},ag.heap.Ns b m->(dF ag.heap H).Ns b m:=λ{b m} ⟨o,es,ep,e,d,r⟩=>⟨o,es,ep,gu e (l_ e d),d,r⟩
  have vM:K.In (dF ag.heap H):=λb o e=>gu (KX b o e) (by
   cases q:H b with
   |none=>rfl
   |some u =>
    have e':b=a:=hA b (by rw [q];simp)
    subst e'
    rw [hK (by rw [q];simp)] at e;cases e)
  have hM:Mod K mg (dF ag.heap H):=⟨vM,n9 vJ,⟨mb,n9 hb,kT⟩,let ⟨mc,h1,h2⟩:=vK;⟨mc,n9 h1,h2⟩⟩
  have e0:dH P w K mg (dF ag.heap H) callerA [] ag H:=⟨rfl,hM,λb o e=>Em e,Nat.le_of_eq (Ek _ _),trivial,λb hb=>absurd (show b∈([]:Ae) from hb) (by simp),hok,.of_eq hg⟩
  refine codeAny_mono ((F _ vM (n9 vJ)).run callerA [] ag H ⟨[.ref a],[]⟩ [.ref a] [.ref a] _ _ hr e0 (qH ag (.ref a)) (.cons rfl .nil) (eL H hO hS)) λr s' h=>?_
  cases r with
  |error e=>exact (qI H e s' h).elim
  |ok fl =>
   cases fl with
   |next=>exact h.elim
   |brk=>exact h.elim
   |cont=>exact h.elim
   |ret u =>
    obtain ⟨v,H',os,bare,un,vN,r',q⟩:=h
    have q':v=.bl true:=q
    subst q'
    obtain rfl:u=Value.bool true:=r'
    refine ⟨rfl,OldK.of_keep λb o e=>?_,os,bare⟩
    cases q:H b with
    |none=>exact un.keep b o e q (by intro z;exact absurd (show b∈([]:Ae) from z) (by simp)) (by simp)
    |some u =>
     rcases hO b with z|⟨ob,xs,z⟩
     ·rw [q] at z;cases z
     ·have z2:=un.frzs b ob _ z
      obtain ⟨e1,_⟩:=hok b _ z
      obtain ⟨e2,_⟩:=vN b _ z2
      rw [e] at e1;cases e1
      exact e2
 cases hk:K.lookup a with
 |some o =>
  have e:=KX a o hk
  rw [ha] at e
  cases e
  refine core (λ_=>none) (λ_=>.inl rfl) (.inr ⟨_,vs.toArray,_,hk,rfl,rfl,rfl,by rw [yO,vL];exact hl,by simpa using rv⟩) (λb u z=>by have z':(none:Option HO)=some u:=z;cases z') (λb z=>absurd rfl z) λz=>absurd rfl z
 |none =>
  refine core (λb=>if b=a then some (.frz { cls:=.type "list", data:=.seq vs.toArray } (.lst (ns.map V.int))) else none) (λb=>?_) (.inl (.inr ⟨{ cls:=.type "list", data:=.seq vs.toArray },zj rfl⟩)) (λb u z=>?_) (λb z=>?_) λ_=>hk
  ·by_cases hb:b=a
   ·exact .inr ⟨_,_,zj hb⟩
   ·exact .inl (zx hb)
  ·by_cases hb:b=a
   ·have z':=(zj hb).symm.trans z
    cases z'
    subst hb
    exact ⟨ha,by rw [yX];exact hl,vs,_,rv,ha⟩
   ·have z':=(zx hb).symm.trans z
    cases z'
  ·by_cases hb:b=a
   ·exact hb
   ·exact absurd (zx hb) z
abbrev KOf {K:PySem.W.Frag}{h:Heap}(_:K.In h):PySem.W.Frag:=K
def zmV {l:PySem.W.OpenLaw}{n k:Nat}{q:Program}{loose:Ad}{XP:(Ab)->Heap->Prop}{YP:World->Heap->Prop}{d:DefRec}{K:Params->PySem.W.Frag}{CX:World->dv}{sp:World->Sp}{x:Str}
  (hn:l.most=some n) (eo:n<=sizeLine) (md:d.params.defaults=[]) (hr:aY k callerA)
  (hY:∀(w:World) (h:Heap),YP w h->(K w.params).In h)
  (F:∀(w:World) (mg:Ab) (fa:Addr) (h:Heap),(K w.params).In h->h.Ns mainGlobals mg->mg d.name=some (.ref fa) ->
   ∃fd:FuncData,(∀(s:Shared) (u:Value),BindsTo s fd ⟨[u],[]⟩ [(x,u)]) /\
    ∀base:Heap,(K w.params).In base->base.Ns mainGlobals mg->bf l.prog w (K w.params) mg base (CX w) k fa fd [x] (sp w))
  (eL:∀(w:World) (H:Hp) (a:Addr) (ns:List Int),ns.length<=n->Only H->a_ (K w.params) H a (ns.map V.int)->sp w [.ref a] H (λv _=>v=.bl true) λ_ _ _=>False)
  (qI:∀(w:World) (H:Hp) (s:Shared) (e:Value) (s':Shared),CX w [] H s (λ_ _ _=>False) e s'->False) :
  PySem.W.WalkO q loose XP YP l.row.toRowW d [] (λf vs=>PySem.call f vs):=by
 refine Att.attach_call hn md λw s₀ ag mg mb fa o pm cd doc a vs ns G Y ho hd dU hmg mf hints hlen hg=>?_
 have KX:=hY w _ Y
 obtain ⟨fd,hb,hF⟩:=F w mg fa _ KX G.T.g hmg
 exact G4 KX G.T.g G.T.b G.T.builtins G.T.nolimit hg mf hints (yW hlen eo) hr hF hb (λH hO hS=>eL w H a ns hlen hO hS) λH e s'=>qI w H ag e s'
def inClass (s:Stmt) (j:Nat):Stmt:=match s with
 |.ClassDef _ _ _ body _ _ _ _ _ _ _=>body.getD j (.Pass ⟨0,0,0,0⟩)
 |_=>.Pass ⟨0,0,0,0⟩
def wE (s:Stmt):Arguments:=match s with
 |.FunctionDef _ a _ _ _ _ _ _ _ _=>a
 |_=>{ posonlyargs:=[],args:=[],vararg:=none,kwonlyargs:=[],kw_defaults:=[],kwarg:=none,defaults:=[] }
def jd (s:Stmt):List Stmt:=match s with
 |.FunctionDef _ _ b _ _ _ _ _ _ _=>b
 |_=>[]
def zI (s:Stmt):Scope:=match s with
 |.FunctionDef _ _ _ _ _ _ sc _ _ _=>sc
 |_=>{ kind:=.function,names:=[],isGenerator:=false,isCoroutine:=false }
abbrev n_:dv:=λ_ _ _ _ _ _=>False
abbrev E0:XK:=λ_ _ _=>False
structure cW (K:PySem.W.Frag) (x qual:Str) (st:Stmt) (f:Addr) (fd:FuncData):Prop where
 ex:∃(oc:Value) (od:Option Addr) (kV doc pm:Value) (an:Option Addr) (aQ ct:Value) (dI:Array (Option Value)),
  fd=PySem.W.fnOf x qual (wE st) (jd st) (zI st) .none kV doc pm an aQ ct/\K.lookup f=some ⟨oc,od,.func fd,dI⟩/\PySem.W.codeIn K aQ qual=true
 kp:PySem.W.keepIn K (.ref f)=true
section
variable {K:PySem.W.Frag}
def cW.binds {x qual:Str}{st:Stmt}{f:Addr}{fd:FuncData}{ps:Ad}(F:cW K x qual st f fd)
  (h:∀(kV doc pm:Value) (an:Option Addr) (aQ ct:Value) (us:Af),us.length=ps.length->bindArgs (PySem.W.fnOf x qual (wE st) (jd st) (zI st) .none kV doc pm an aQ ct) ⟨us,[]⟩=pure (ps.zip us)):Binds K fd ps []:=by
 obtain ⟨oc,od,kV,doc,pm,an,aQ,ct,dI,rfl,lk,dU⟩:=F.ex
 exact .all (h kV doc pm an aQ ct)
def kU {x qual:Str}{st:Stmt}{f:Addr}{oc:Value}{od an:Option Addr}{dI:Array (Option Value)}{kV doc pm aQ ct:Value}(l:K.lookup f=some ⟨oc,od,.func (PySem.W.fnOf x qual (wE st) (jd st) (zI st) .none kV doc pm an aQ ct),dI⟩)
  (c:PySem.W.codeIn K aQ qual=true) (k:PySem.W.keepIn K (.ref f)=true):cW K x qual st f (PySem.W.fnOf x qual (wE st) (jd st) (zI st) .none kV doc pm an aQ ct):=⟨⟨oc,od,kV,doc,pm,an,aQ,ct,dI,rfl,l,c⟩,k⟩
end
def kC (H H':Hp):Prop:=∀b o,H b=some o->H' b=some o
def kC.free {H H':Hp}(e:kC H H') {l:Addr}(h:H' l=Option.none):H l=Option.none:=by
 cases q:H l with
 |none=>rfl
 |some o =>
  rw [e l o q] at h
  cases h
def kC.seq {K:PySem.W.Frag}{H H':Hp}{a:Addr}{xs:List V}(e:kC H H') (h:a_ K H a xs):a_ K H' a xs:=by
 rcases h with (h|⟨o,h⟩)|h
 ·exact .inl (.inl (e _ _ h))
 ·exact .inl (.inr ⟨o,e _ _ h⟩)
 ·exact .inr h
end L2
set_option maxHeartbeats 4000000
namespace L2
open PySem PySem.Spec PyProof.Rows
def vO {l z D b:Nat}(h1:l<z) (h2:z=D) (h3:D<=b) (h4:b=l):False:=by omega
def ib {b D C:Nat}(h1:b<D) (h2:C=D+1) (h3:b=C):False:=by omega
def vP {b e d:Nat}(h1:b<e) (h2:e<=d) (h3:d<=b):False:=by omega
def vQ {b D p:Nat}(h1:b<D) (h2:p=D) (h3:p=b):False:=by omega
theorem qJ (env:Env):∀(l:List (Str×NameKind)) (acc:List (Str×Addr)),(∀p∈l,p.2=.free->∃c,env.cells.lookup p.1=some c) ->
  ∃cl,(forIn l acc (λ(x:Str×NameKind) (cs:List (Str×Addr))=>if (x.snd==NameKind.free)=true then do
            let a <-cellOf env x.fst
            pure (ForInStep.yield ((x.fst,a)::cs))
      else pure (ForInStep.yield cs)):Sem (List (Str×Addr)))=pure cl /\
   (∀y c,(y,c)∈cl->(y,c)∈acc\/(env.cells.lookup y=some c/\(y,NameKind.free)∈l))/\(∀p∈acc,p∈cl)/\(∀y,(y,NameKind.free)∈l->∃c,(y,c)∈cl)
 |[],acc,_=>⟨acc,rfl,λ_ _ h=>.inl h,λ_ h=>h,λ_ h=>nomatch h⟩
 | (n,k)::r,acc,dr=>by
  by_cases hk:k=.free
  ·subst hk
   obtain ⟨c,hc⟩:=dr (n,.free) zY rfl
   obtain ⟨cl,e,h1,h2,h3⟩:=qJ env r ((n,c)::acc) λp hp=>dr p (yd _ hp)
   refine ⟨cl,?_,λy d hy=>?_,λp hp=>h2 p (yd _ hp),λy hy=>?_⟩
   ·rw [List.forIn_cons]
    simp only [beq_self_eq_true,jH]
    have:cellOf env n=pure c:=by unfold cellOf;rw [hc]
    rw [this]
    exact e
   ·rcases h1 y d hy with q|q
    ·rcases yn.mp q with q|q
     ·cases q
      exact .inr ⟨hc,zY⟩
     ·exact .inl q
    ·exact .inr ⟨q.1,yd _ q.2⟩
   ·rcases yn.mp hy with q|q
    ·cases q
     exact ⟨c,h2 _ zY⟩
    ·exact h3 y q
  ·obtain ⟨cl,e,h1,h2,h3⟩:=qJ env r acc λp hp=>dr p (yd _ hp)
   refine ⟨cl,?_,λy d hy=>?_,h2,λy hy=>?_⟩
   ·rw [List.forIn_cons]
    have:(k==NameKind.free)=false:=by simpa using hk
    simp only [this,Bool.false_eq_true,if_false]
    exact e
   ·rcases h1 y d hy with q|q
    ·exact .inl q
    ·exact .inr ⟨q.1,yd _ q.2⟩
   ·rcases yn.mp hy with q|q
    ·cases q
     exact absurd rfl hk
    ·exact h3 y q
theorem vR {β:Type}{y:Str}:∀{l:List (Str×β)}{c:β},(y,c)∈l->∃d,l.lookup y=some d
 | (n,b)::r,c,h=>by
  rw [wU]
  cases e:y==n with
  |true=>exact ⟨b,rfl⟩
  |false =>
   rcases yn.mp h with q|q
   ·cases q
    simp at e
   ·exact vR q
def vS (env:Env) (scope:Scope) (dr:∀p∈scope.names,p.2=.free->∃c,env.cells.lookup p.1=some c) :
  ∃cl,closureFor scope env=pure cl/\(∀y c,cl.lookup y=some c->env.cells.lookup y=some c)/\(∀y,(y,NameKind.free)∈scope.names->∃c,cl.lookup y=some c):=by
 obtain ⟨cl,e,h1,_,h3⟩:=qJ env scope.names [] dr
 refine ⟨cl,?_,λy c hy=>?_,λy hy=>?_⟩
 ·simp only [closureFor]
  rw [e]
  rfl
 ·rcases h1 y c (PySem.mem_of_lookup hy) with z|z
  ·cases z
  ·exact z.1
 ·obtain ⟨c,hc⟩:=h3 y hy
  exact vR hc
structure b_ (sc scope:Scope) (x:Str):Prop where
 kind:scope.kind=.function
 ncell:∀y∈scope.names,y.2 ≠ .cell
 names:∀y∈scope.names,y.2=.local->scope.names.lookup y.1=some .local/\(y.1=x\/y.1 = ".0")
 hx:scope.names.lookup x=some .local
 free:∀y∈scope.names,y.2=.free->sc.names.lookup y.1=some .cell
def gv (X:Cx) (M:Ad) (scope:Scope) (cl:List (Str×Addr)) (x:Str) (C:Addr) (ae:Shared) (ah:Hp) (fp:Ae) (E:Aa):Cx :=
 { X with N:=x::M,s₀:=ae,H₀:=ah,env:=compEnvC scope cl C X.env,outer:=X.stack,ex:=fp,fn:=λ_=>false,pn:=[],xe:=E }
def Hid (scope:Scope) (M N:Ad):Prop:=M.length=N.length/\∀p∈M.zip N,p.1=p.2\/p.1∉scope.names.map Prod.fst
def Hid.refl {scope:Scope}{N:Ad}:Hid scope N N:=⟨rfl,λp hp=>.inl (by
 obtain ⟨i,hi,e⟩:=nK hp
 rw [List.getElem_zip] at e
 rw [<-e])⟩
def Hid.get {scope:Scope}{M N:Ad}(h:Hid scope M N) {i:Nat}{y:Str}(e:M[i]?=some y):N[i]?=some y\/y∉scope.names.map Prod.fst:=by
 obtain ⟨hi,ei⟩:=yN.mp e
 have hj:i<N.length:=h.1▸hi
 have hm:(M[i],N[i])∈M.zip N:=jy (i:=i) (by rw [List.getElem?_zip_eq_some];exact ⟨yc hi,yc hj⟩)
 rcases h.2 _ hm with q|q
 ·exact .inl (by rw [yc hj,<-ei];exact congrArg some q.symm)
 ·exact .inr (by rw [<-ei];exact q)
def qK (X:Cx) (scope:Scope) (cl:List (Str×Addr)) (x:Str) (C:Addr) (ae:Shared) (ah:Hp) (fp:Ae) (E:Aa):Cx :=
 { X with N:=x::X.N,s₀:=ae,H₀:=ah,env:=compEnvC scope cl C X.env,outer:=X.stack,ex:=fp,fn:=λ_=>false,pn:=[],xe:=E }
section
variable {X:Cx} {scope:Scope} {x:Str}
def gw {env:Env}{y:Str}{k:NameKind}(h:(relabel scope env).names.lookup y=some k):∃k0,(y,k0)∈scope.names/\((k0=.free/\env.kindOf y=some .cell/\k=.cell)\/(k=k0/\¬(k0=.free/\env.scope.kind=.function/\env.kindOf y=some .cell))):=by
 have hm:=PySem.mem_of_lookup h
 obtain ⟨⟨n,k0⟩,hn,e⟩:=j1.mp hm
 by_cases hc:(k0==NameKind.free&&env.scope.kind == .function&&env.kindOf n==some .cell)=true
 ·have e':(n,NameKind.cell)=(y,k):=by rw [<-e];simp only [hc,jH]
  cases e'
  simp only [yC,beq_iff_eq] at hc
  exact ⟨_,hn,.inl ⟨hc.1.1,hc.2,rfl⟩⟩
 ·have e':(n,k0)=(y,k):=by rw [<-e];simp only [hc,if_false];rfl
  cases e'
  refine ⟨_,hn,.inr ⟨rfl,λ⟨a,b,c⟩=>hc ?_⟩⟩
  simp [a,b,c]
def vT (S:b_ X.env.scope scope x) {y:Str} (h:(relabel scope X.env).names.lookup y=some .local):y=x\/y = ".0" := by
 obtain ⟨k0,hm,⟨_,_,e⟩|⟨e,_⟩⟩:=gw h
 ·cases e
 ·subst e
  exact (S.names _ hm rfl).2
def qL (S:b_ X.env.scope scope x) (hk:X.env.scope.kind=.function) {y:Str}(h:(relabel scope X.env).names.lookup y=some .cell\/(relabel scope X.env).names.lookup y=some .free):(y,NameKind.free)∈scope.names:=by
 rcases h with h|h
 ·obtain ⟨k0,hm,⟨e,_,_⟩|⟨e,_⟩⟩:=gw h
  ·subst e;exact hm
  ·subst e;exact absurd rfl (S.ncell _ hm)
 ·obtain ⟨k0,hm,⟨_,_,e⟩|⟨e,n⟩⟩:=gw h
  ·cases e
  ·subst e
   exact hm
end
def G5 {P:Program}{wd:World}{B:Around}{Z:Result->Shared->Prop}{u0:Shared}{el tg iter:Expr}{sc:Scope}{ps:Pos}{iv ac:Value}{ev:Env}(J0:Nat->Shared->Prop)
  (turn:∀k u,J0 k u->wpAny (model P wd) B (pyNext iv) (λr u1=>match r with|none=>Z (.ok .next) u1|some v=>wpAny (model P wd) B (letOwnedTupleGo tg iv v) (λ_ u2 =>
   wpAny (model P wd) B (assign tg ev v) (λ_ u3=>wpAny (model P wd) B (eval el ev) (λy u4=>wpAny (model P wd) B (call (.builtin "list.append") [ac,y]) (λ_ u5=>∃m,m<k/\J0 m u5)
    (notedBy (model P wd) B ev λe u=>Z (.error e) u) u4) (notedBy (model P wd) B ev λe u=>Z (.error e) u) u3) (notedBy (model P wd) B ev λe u=>Z (.error e) u) u2) (notedBy (model P wd) B ev λe u=>Z (.error e) u) u1)
   (notedBy (model P wd) B ev λe u=>Z (.error e) u) u)
  (k0:Nat) (fO:J0 k0 u0):codeAny (model P wd) B (.compLoop (.ListComp el [⟨tg,iter,[],0⟩] sc ps) 0 iv ac ev) Z u0:=by
 refine codeAny_loop rfl J0 (λk u hJ=>wpAny_noted (E:=λe u=>Z (.error e) u) (env:=ev) (m:=compTurn (.ListComp el [⟨tg,iter,[],0⟩] sc ps) 0 iv ac ev) ?_) k0 fO
 rw [compTurn_list1]
 have one:=turn k u hJ
 refine zy (wpAny_standAt (zy (yM one (λr u1 q1=>?_) λ_ _ z=>z)))
 cases r with
 |none=>exact zW q1
 |some v =>
  refine zy (yM q1 (λ_ u2 q2=>zy (yM q2 (λ_ u3 q3=>?_) λ_ _ z=>z)) λ_ _ z=>z)
  exact zy (zy (yM q3 (λy u4 q4=>zy (yM q4 (λ_ u5 q5=>zW (zW ⟨rfl,q5⟩)) λ_ _ z=>z)) λ_ _ z=>z))
def ic (J:It) (te:TE) (σ:St) (Q:VK) (H1:Hp):Prop:=∃W:Nat->Nat->List V->Hp->Prop,(∃m,W 0 m [] H1)/\∀i m ys H,W i m ys H ->
 (J.stop i H/\ys.length<=sizeLine/\∀l,H l=none->Q (.ref l) (upd H l (.lst ys))) \/
 (J.go i H/\ys.length<=sizeLine/\∀z H',J.yld i H z H'->te (some z::σ) H' λy H2=>∃m',m'<m/\W (i+1) m' (ys++[y]) H2)
def qM (wi:TI) (te:TE):TE:=fun σ H Q=>wi σ H λJ H1=>ic J te σ Q H1
end L2
namespace L2
open PySem PySem.Spec PyProof.Rows PySem.W
structure eG (sc scope:Scope) (xs:Ad):Prop where
 kind:scope.kind=.function
 ncell:∀y∈scope.names,y.2 ≠ .cell
 names:∀y∈scope.names,y.2=.local->scope.names.lookup y.1=some .local/\(y.1∈xs\/y.1 = ".0")
 free:∀y∈scope.names,y.2=.free->sc.names.lookup y.1=some .cell
def d6 (X:Cx) (M:Ad) (scope:Scope) (cl:List (Str×Addr)) (xs:Ad) (C:Addr) (ae:Shared) (ah:Hp) (fp:Ae) (E:Aa):Cx :=
 { X with N:=xs++M,s₀:=ae,H₀:=ah,env:=compEnvC scope cl C X.env,outer:=X.stack,ex:=fp,fn:=λ_=>false,pn:=[],xe:=E }
section
variable {X:Cx} {scope:Scope} {xs:Ad}
def vU (S:eG X.env.scope scope xs) {y:Str} (h:(relabel scope X.env).names.lookup y=some .local):y∈xs\/y = ".0" := by
 obtain ⟨k0,hm,⟨_,_,e⟩|⟨e,_⟩⟩:=gw h
 ·cases e
 ·subst e
  exact (S.names _ hm rfl).2
def qN (S:eG X.env.scope scope xs) (hk:X.env.scope.kind=.function) {y:Str}(h:(relabel scope X.env).names.lookup y=some .cell\/(relabel scope X.env).names.lookup y=some .free):(y,NameKind.free)∈scope.names:=by
 rcases h with h|h
 ·obtain ⟨k0,hm,⟨e,_,_⟩|⟨e,_⟩⟩:=gw h
  ·subst e;exact hm
  ·subst e;exact absurd rfl (S.ncell _ hm)
 ·obtain ⟨k0,hm,⟨_,_,e⟩|⟨e,n⟩⟩:=gw h
  ·cases e
  ·subst e
   exact hm
end
def ie (X:Cx) (ifs:List Expr) (t:TT):Prop:=∀(pins:Ac) (s:Shared) (σ:St) (H:Hp) (Q:Bool->Hp->Prop),Inv X pins σ H s->t σ H Q ->
 wpAny (model X.prog X.w) X.A (forIn ifs true λc r=>if r=true then do let ok <-isTrue c X.env (eval c X.env);pure (ForInStep.yield ok) else pure (ForInStep.yield r)) (TP X pins σ Q) X.xe s
def og:TT:=λ_ H Q=>Q true H
def G6 {X:Cx}:ie X [] og:=λpins s σ H Q I h=>wpAny_tests_nil ⟨H,I,h⟩
theorem ie.nox {X:Cx}{ifs:List Expr}{t:TT}(h:ie X.nox ifs t):ie X ifs t:=λpins s σ H Q I hw =>
 yM (h pins s σ H Q (I.wish _) hw) (λb s' ⟨H',I',q⟩=>⟨H',I'.unwish,q⟩) λ_ _ z=>z.elim
def G7 {P:Program}{wd:World}{B:Around}{Z:Result->Shared->Prop}{u0:Shared}{el tg iter:Expr}{ifs:List Expr}{sc:Scope}{ps:Pos}{iv ac:Value}{ev:Env}(J0:Nat->Shared->Prop)
  (turn:∀k u,J0 k u->wpAny (model P wd) B (pyNext iv) (λr u1=>match r with|none=>Z (.ok .next) u1|some v=>wpAny (model P wd) B (letOwnedTupleGo tg iv v) (λ_ u2 =>
   wpAny (model P wd) B (assign tg ev v) (λ_ u3=>wpAny (model P wd) B (forIn ifs true λc r=>if r=true then do let ok <-isTrue c ev (eval c ev);pure (ForInStep.yield ok) else pure (ForInStep.yield r)) (λok u4 =>
    if ok=true then wpAny (model P wd) B (eval el ev) (λy u5=>wpAny (model P wd) B (call (.builtin "list.append") [ac,y]) (λ_ u6=>∃m,m<k/\J0 m u6)
    (notedBy (model P wd) B ev λe u=>Z (.error e) u) u5) (notedBy (model P wd) B ev λe u=>Z (.error e) u) u4 else ∃m,m<k/\J0 m u4) (notedBy (model P wd) B ev λe u=>Z (.error e) u) u3) (notedBy (model P wd) B ev λe u=>Z (.error e) u) u2) (notedBy (model P wd) B ev λe u=>Z (.error e) u) u1)
   (notedBy (model P wd) B ev λe u=>Z (.error e) u) u)
  (k0:Nat) (fO:J0 k0 u0):codeAny (model P wd) B (.compLoop (.ListComp el [⟨tg,iter,ifs,0⟩] sc ps) 0 iv ac ev) Z u0:=by
 refine codeAny_loop rfl J0 (λk u hJ=>wpAny_noted (E:=λe u=>Z (.error e) u) (env:=ev) (m:=compTurn (.ListComp el [⟨tg,iter,ifs,0⟩] sc ps) 0 iv ac ev) ?_) k0 fO
 rw [compTurn_list]
 have one:=turn k u hJ
 refine zy (wpAny_standAt (zy (yM one (λr u1 q1=>?_) λ_ _ z=>z)))
 cases r with
 |none=>exact zW q1
 |some v =>
  refine zy (yM q1 (λ_ u2 q2=>zy (yM q2 (λ_ u3 q3=>zy (yM q3 (λok u4 q4=>?_) λ_ _ z=>z)) λ_ _ z=>z)) λ_ _ z=>z)
  cases ok with
  |true=>exact zy (zy (yM q4 (λy u4 q4=>zy (yM q4 (λ_ u5 q5=>zW (zW ⟨rfl,q5⟩)) λ_ _ z=>z)) λ_ _ z=>z))
  |false=>exact zy (zW (zW ⟨rfl,q4⟩))
def fP (J:It) (gt:TG) (tt:TT) (te:TE) (n:Nat) (σ:St) (Q:VK) (H1:Hp):Prop:=∃W:Nat->Nat->List V->Hp->Prop,(∃m,W 0 m [] H1)/\∀i m ys H,W i m ys H ->
 (J.stop i H/\ys.length<=sizeLine/\∀l,H l=none->Q (.ref l) (upd H l (.lst ys))) \/
 (J.go i H/\ys.length<=sizeLine/\∀z H',J.yld i H z H'->gt z (List.replicate n none++σ) H' λam H1=>∃own:St,am=own++σ/\own.length=n/\tt am H1 λb H2 =>
  if b=true then te am H2 λy H3=>∃m',m'<m/\W (i+1) m' (ys++[y]) H3 else ∃m',m'<m/\W (i+1) m' ys H2)
def G8 (wi:TI) (gt:TG) (tt:TT) (te:TE) (n:Nat):TE:=fun σ H Q=>wi σ H λJ H1=>fP J gt tt te n σ Q H1
def G9 {X:Cx} {elt iter tg:Expr} {ifs:List Expr} {xs:Ad} {pos:Pos} {scope:Scope} {wi:TI} {gt:TG} {tt:TT} {te:TE} {M:Ad} (hc:X.calm=true) (S:eG X.env.scope scope xs) (eN:Hid scope M X.N) (cX:((".0" : Str)::(xs++M)).Nodup)
  (hi:PI X tg iter wi) (G_:∀cl C ae ah fp E,PG (d6 X M scope cl xs C ae ah fp E) tg gt) (Ha:∀cl C ae ah fp,ie (d6 X M scope cl xs C ae ah fp (λ_ _=>False)) ifs tt) (he:∀cl C ae ah fp,PE (d6 X M scope cl xs C ae ah fp (λ_ _=>False)) elt te)
  (hs:∀v,foldedSetIterable iter X.env v=pure v:=by intro _;rfl):PE X (.ListComp elt [⟨tg,iter,ifs,0⟩] scope pos) (G8 wi gt tt te xs.length):=by
 intro pins s σ H Q I h
 have hN:(xs++M).Nodup:=(wC.mp cX).2
 have qO:(".0" : Str)∉M:=λz=>(wC.mp cX).1 (yP _ z)
 obtain ⟨cl,ig,cq,gy⟩:=vS X.env scope λp hp hf=>I.ok.has p.1 (.inl (S.free p hp hf))
 have ik:X.env.scope.kind=.function:=I.ok.kind
 rw [eval_ListComp]
 refine wpAny_comprehension_free (use:=none) rfl hs ig S.kind (λy hy hl=>(S.names y hy hl).1) ?_
 refine aO (hi pins s σ H _ I h) λv s1 h1=>aO h1 λnP ae h2=>?_
 obtain ⟨it,fp,tn,J,H2,e,I2,T,aK,f2,W,⟨m0,w0⟩,turn⟩:=h2
 subst e
 refine hG (wpAny_newFunctionEnv S.ncell (by intro y hy;simp at hy) (λaq aw av=>?_) S.kind)
 dsimp only at aw av ⊢
 generalize fq:ae.heap.push { cls:=.type "list", dict:=none,data:=.seq ([]:Af).toArray }=G2 at aw av ⊢
 have hC:G2.objs.size=ae.heap.objs.size+1:=by rw [<-fq,Heap.size_push]
 have fw:ae.heap.objs.size≠G2.objs.size:=by rw [hC];exact yB (wV _)
 have vV:ae.heap.objs.size<=G2.objs.size:=by rw [hC];exact Nat.le_succ _
 have old:∀b o,ae.heap.get? b=some o->aq.get? b=some o:=λb o e=>by
  have hb:b≠G2.objs.size:=by rw [hC];exact yB (Nat.lt_succ_of_lt (yb e))
  exact av.extBut b o hb (z8 _ (fq▸z8 _ e))
 have fG:aq.get? ae.heap.objs.size=some { cls:=.type "list", data:=.seq (#[]:Array Value) 0 }:=av.extBut _ _ fw (z8 _ (fq▸yV _ rfl))
 generalize hD:ae.heap.objs.size=D at *
 generalize hCC:G2.objs.size=C at *
 have dm:∀{b:Nat} {o:Obj},ae.heap.get? b=some o->b<D:=λe=>by rw [<-hD];exact yb e
 have nofr:∀b,D<=b->b∉cg X.stack:=λb hb z=>by
  rcases yn.mp (I2.stkSub b z) with q|q
  ·exact vO I2.lt hD hb q
  ·exact I2.nofs (by rw [hD];exact hb) q
 let E':Aa:=notedBy (model X.prog X.w) X.A (compEnvC scope cl C X.env) λe s'=>compPost (model X.prog X.w) X.A X.xe none (EP X pins σ Q) (.ref D) C (.error e) s'
 let Y:Cx:=d6 X M scope cl xs C ae H2 fp E'
 have cO:∀b∈fp,c6 X pins H2 b:=f2
 have il:Y.Ok:=by
  refine ⟨I2.ok.mod,S.kind,I2.ok.glob,I2.ok.blt,(by show ae.heap.objs.size<=C;omega),λy z c h1 h2=>?_,λy hy=>?_,λy c hf=>?_,I2.ok.hd,I2.ok.frames,.inl rfl,λb hb=>?_,I2.bs,yW I2.ok.bsz I2.sz,λb o hb hx=>?_,λb hb hx=>?_,I2.stack,I2.stkFree⟩
  ·exact I2.ok.inj y z c (cq y c h1) (cq z c h2)
  ·exact gy y (qN S ik hy)
  ·cases hf
  ·refine ⟨λz=>?_,λy c hy=>(cO b hb).2.2.2.2.1 y c (cq y c hy)⟩
   obtain ⟨o,ho,_⟩:=T.obj 0 _ aK b hb
   exact ib (dm ho) hC z
  ·rcases (cO b hx).2.2.2.1 with z|z
   ·exact I2.ok.noex b o hb z
   ·exact vP (yb hb) I2.ok.bsz z
  ·rcases yn.mp (I2.stkSub b hx) with q|q
   ·exact (cO b hb).2.1 q
   ·exact (cO b hb).2.2.1 q
 have dY:∀{s':Shared} {H':Hp} {o:Obj},s'.heap.get? D=some o->H' D=none->(∀v,o.data ≠ .cell v)->∀p∈[(D,o)],s'.heap.get? p.1=some p.2/\H' p.1=none/\p.1≠Y.env.locals/\p.1∉Y.fs/\∀v,p.2.data ≠ .cell v:=λ{s' H' o} e1 e2 e3 p hp=>by
  have ep:p=(D,o):=by simpa using hp
  subst ep
  exact ⟨e1,e2,fw,nofr D (z0 _),e3⟩
 have I0:Inv Y [(D,{ cls:=.type "list", data:=.seq (#[]:Array Value) 0 })] (List.replicate xs.length none++σ) H2 { ae with heap:=aq,toks:=ae.toks+([]:List (Str×Value)).length }:=by
  have fresh:∀b,D<=b->H2 b=none:=λb hb=>I2.hok.fresh (by rw [hD];exact hb)
  refine ⟨il,rfl,I2.bare,Un.kept old,⟨_,aw,λi y v e1 e2 e3=>?_⟩,λy c hy=>?_,fresh C (by omega),λy c hy=>I2.freeC y c (cq y c hy),λp hp=>dY fG (fresh D (z0 _)) (λv z=>by cases z) p hp,I2.hok.kept old,?_⟩
  ·by_cases bg:i<xs.length
   ·rw [gj (by simpa using bg),List.getElem?_replicate] at e2
    simp [bg] at e2
   ·obtain ⟨j,rfl⟩:∃j,i=xs.length+j:=⟨i-xs.length,by omega⟩
    have mh:M[j]?=some y:=by
     have:(xs++M)[xs.length+j]?=some y:=e1
     rw [hV (by omega)] at this
     simpa using this
    have qP:X.N[j]?=some y:=by
     rcases eN.get mh with q|q
     ·exact q
     ·refine absurd ?_ q
      rcases e3 with e3|e3|e3<;>(obtain ⟨k0,hm,_⟩:=gw e3;exact j1.mpr ⟨_,hm,rfl⟩)
    have qQ:σ[j]?=some (some v):=by
     rw [hV (by simp)] at e2
     simpa using e2
    have mi:¬(y∈xs\/y = ".0"):=λz=>by
     have hm:=jy mh
     rcases z with z|z
     ·exact (List.nodup_append.mp hN).2.2 y z y hm rfl
     ·rw [z] at hm
      exact qO hm
    have cz:(y,NameKind.free)∈scope.names:=by
     rcases e3 with e3|e3|e3
     ·exact absurd (vU S e3) mi
     ·exact qN S ik (.inl e3)
     ·exact qN S ik (.inr e3)
    have mj:X.env.scope.names.lookup y=some .cell:=S.free _ cz rfl
    obtain ⟨m,hn,hl⟩:=I2.loc
    obtain ⟨u,r,l⟩:=hl j y v qP qQ (.inr (.inl mj))
    refine ⟨u,r,?_⟩
    rcases l with ⟨hk,_⟩|⟨_,c,gn,dW⟩
    ·have:X.env.kindOf y=some .cell:=mj
     rw [this] at hk;cases hk
    ·obtain ⟨c',eh⟩:=gy y cz
     have:=cq y c' eh
     rw [gn] at this
     cases this
     refine .inr ⟨?_,c,eh,?_⟩
     ·rcases e3 with e3|e3|e3
      ·exact absurd (vU S e3) mi
      ·exact .inl e3
      ·exact .inr e3
     ·obtain ⟨o,ho,hd⟩:=dW
      exact ⟨o,old c o ho,hd⟩
  ·obtain ⟨v,o,ho,hd⟩:=I2.cell y c (cq y c hy)
   exact ⟨v,o,old c o ho,hd⟩
  ·show (List.replicate xs.length none++σ).length=(xs++M).length
   simp [I2.len,eN.1]
 have iq:∀{pl:Ac} {H':Hp},(∀p∈pl,p.1=D)->(∀b∈fp,H' b=none)->∀b∈fp,c6 Y pl H' b:=λ{pl H'} bj hn b hb=>by
  obtain ⟨o,ho,_⟩:=T.obj 0 _ aK b hb
  refine ⟨hn b hb,λz=>?_,?_,.inl hb,(il.exf b hb).2,λp hp z=>?_⟩
  ·exact ib (dm ho) hC z
  ·exact il.exfs b hb
  ·have hp':p∈pl:=by simpa [Y,d6] using hp
   exact vQ (dm ho) (bj p hp') z
 have loop:codeAny (model X.prog X.w) X.A (.compLoop (.ListComp elt [⟨tg,iter,ifs,0⟩] scope pos) 0 (.ref it) (.ref D) (compEnvC scope cl C X.env))
   (compPost (model X.prog X.w) X.A X.xe none (EP X pins σ Q) (.ref D) C) { ae with heap:=aq,toks:=ae.toks+([]:List (Str×Value)).length }:=by
  refine G7 (λn s'=>∃i ys H' its k,Inv Y [(D,{ cls:=.type "list", data:=.seq (its:Af).toArray k })] (List.replicate xs.length none++σ) H' s'/\Vals ys its/\tn i s'.heap/\(∀b∈fp,H' b=none)/\W i n ys H') ?_ m0
   ⟨0,[],H2,[],0,I0,.nil,T.keep 0 _ _ aK (λb hb o e=>old b o e),λb hb=>(cO b hb).1,w0⟩
  rintro n s3 ⟨i,ys,H3,its,k,I3,rv,ba,gr,w3⟩
  have eQ:∀{o:Obj},∀p∈[(D,o)],p.1=D:=λ{o} p hp=>by
   have ep:p=(D,o):=by simpa using hp
   rw [ep]
  obtain ⟨gD,nD,_,_,_⟩:=I3.pin (D,_) (yP _ zY)
  rcases turn i n ys H3 w3 with ⟨stop,hz,q⟩|⟨go,hz,step⟩
  ·refine aO (T.done Y rfl rfl rfl hc i _ s3 _ H3 E' I3 (iq eQ gr) ba stop) λr s4 ⟨hr,I4⟩=>?_
   subst hr
   obtain ⟨qR,iu,_,_,_⟩:=I4.pin (D,_) (yP _ zY)
   obtain ⟨m4,qS,_⟩:=id I4.loc
   refine ⟨m4,qS,λh' cv=>?_⟩
   refine ⟨.ref D,upd H3 D (.lst ys),?_,rfl,q D iu⟩
   have fh:∀{b:Addr} {u:HO},H3 b=some u->b≠C:=λe z=>by
    have:H3 C=none:=I4.free
    rw [z,this] at e;cases e
   refine I2.call' (s':={ s4 with heap:=h' }) (ch:=fp) (H':=upd H3 D (.lst ys)) I4.os ?_ ?_ I4.bare λb hb=>⟨(cO b hb).2.2.2.1,(cO b hb).2.1,(cO b hb).2.2.2.2.1,(cO b hb).2.2.2.2.2⟩
   ·have B:=I4.base
    have iz:∀{b:Nat} {o:Obj},ae.heap.get? b=some o->b≠C:=λe z=>ib (dm e) hC z
    have iA:∀{b:Addr} {u:HO},H3 b=some u->b≠D:=λe z=>by rw [z,iu] at e;cases e
    refine ⟨λb o e nn hb hx=>(cv.2 b (iz e)).trans (B.keep b o e nn hb hx),λb o e nn hb hx=>?_,λb o e nn hx=>?_,λb o e hx=>?_,λb xs e=>?_,λb o u e=>?_,λb ps e=>?_⟩
    ·obtain ⟨sl,z⟩:=B.slot b o e nn hb hx
     exact ⟨sl,(cv.2 b (iz e)).trans z⟩
    ·have qT:b≠D:=yB (dm e)
     rw [zR qT]
     exact B.free b o e nn hx
    ·obtain ⟨o',z⟩:=B.there b o e hx
     exact ⟨o',(cv.2 b (iz e)).trans z⟩
    ·have z:=B.tups b xs e
     rw [zR (iA z)];exact z
    ·have z:=B.frzs b o u e
     rw [zR (iA z)];exact z
    ·obtain ⟨more,z⟩:=B.tbls b ps e
     exact ⟨more,by rw [zR (iA z)];exact z⟩
   ·intro a o e
    by_cases ha:a=D
    ·subst ha
     rw [yD] at e
     cases e
     exact ⟨hz,its,k,rv,(cv.2 _ fw).trans qR⟩
    ·rw [zR ha] at e
     have dJ:∀b u,H3 b=some u->(upd H3 D (.lst ys)) b=some u:=λb u z=>by
      have hb:b≠D:=λw=>by rw [w,iu] at z;cases z
      rw [zR hb];exact z
     refine (I4.hok a o e).stay (λb u hb z=>(cv.2 b ?_).trans z) (λb z=>dJ b _ z) λb xs z=>dJ b _ z
     rcases hb with hb|hb
     ·rw [hb];exact fh e
     ·exact fh hb
  ·refine aO (T.item Y rfl rfl rfl hc i _ s3 _ H3 E' I3 (iq eQ gr) ba go) λr s4 ⟨u,hr,h4⟩=>?_
   subst hr
   refine aO h4 λ_ s5 ⟨z,H5,I5,r5,y5,cM,lX⟩=>?_
   have lY:=I5.pinned (iq eQ lX) (T.obj _ _ cM)
   have ml:PG Y tg gt:=G_ cl C ae H2 fp E'
   have qU:PE Y elt te:=PE.nox (X:=Y) (he cl C ae H2 fp)
   have Hb:ie Y ifs tt:=ie.nox (X:=Y) (Ha cl C ae H2 fp)
   refine aO (ml _ s5 (List.replicate xs.length none++σ) H5 z u _ lY r5 (step z _ y5)) λ_ s6 ⟨aA,H6,I6,own,e1,e2,q6⟩=>?_
   subst e1
   have wk:∀(j:Nat) v,(List.replicate xs.length none++σ)[j]?=some (some v)->(own++σ)[j]?=some (some v):=λj v e=>by
    by_cases bg:j<xs.length
    ·rw [gj (by simpa using bg),List.getElem?_replicate] at e
     simp [bg] at e
    ·rw [hV (by simp;omega)] at e
     rw [hV (by omega),e2]
     simpa using e
   have wl:(List.replicate xs.length none++σ).length=(own++σ).length:=by simp [e2]
   refine aO (Hb _ s6 _ _ _ I6 q6) λb s7 ⟨H7,I7,q7⟩=>?_
   cases b with
   |true =>
    refine aO (qU _ s7 _ _ _ I7 q7) λuy s7 ⟨y,H7,I7,ry,m',hm,w7⟩=>?_
    obtain ⟨mm,iB,_,_,_⟩:=I7.pin (D,_) (yP _ (kI _ zY))
    refine wpAny_list_append_plain ⟨k,mm⟩ (λh' bj cv=>?_) (by rw [yO,<-rv.length];exact hz)
    obtain ⟨k',mn⟩:=bj
    have I8:Inv Y [] (own++σ) H7 { s7 with heap:=h' }:=(I7.pins_of (pins':=[]) (λp hp=>nomatch hp)).turned (it:=D) (t':=s7.toks) (λb o hb e=>(cv.2 b hb).trans e) iB fw
     (.inr (by show ae.heap.objs.size<=D;omega)) (λa c hy dM=>by
      obtain ⟨v',o',ho',_⟩:=I2.cell a c (cq a c hy)
      exact yB (dm ho') dM) (λp hp=>by simp [Y,d6] at hp)
    have I9:Inv Y [] (List.replicate xs.length none++σ) H7 { s7 with heap:=h' }:=I8.weak wl wk
    have c9:∀b∈fp,∃o,s5.heap.get? b=some o/\s7.heap.get? b=some o/\H7 b=none:=λb hb=>by
     obtain ⟨o,e,_⟩:=T.obj _ _ cM b hb
     have q:=I7.pin (b,o) (yP _ (yP _ (lW hb e)))
     exact ⟨o,e,q.1,q.2.1⟩
    have qV:∀b∈fp,b≠D:=λb hb=>by
     obtain ⟨o,ho,_⟩:=T.obj 0 _ aK b hb
     exact yB (dm ho)
    have eT:its.toArray.push uy=(its++[uy]).toArray:=by simp
    rw [eT] at mn
    refine ⟨m',hm,i+1,ys++[y],H7,its++[uy],k',I9.pins_of (dY mn iB λv e=>by cases e),rv.append (.cons ry .nil),T.keep (i+1) _ _ cM λb hb o e=>?_,λb hb=>?_,w7⟩
    ·obtain ⟨o',e1,e2,_⟩:=c9 b hb
     rw [e] at e1
     cases e1
     exact (cv.2 b (qV b hb)).trans e2
    ·obtain ⟨_,_,_,q⟩:=c9 b hb
     exact q
   |false =>
    obtain ⟨m',hm,w7⟩:=q7
    obtain ⟨mm,iB,_,_,_⟩:=I7.pin (D,_) (yP _ (kI _ zY))
    have I9:Inv Y [] (List.replicate xs.length none++σ) H7 s7:=(I7.pins_of (pins':=[]) (λp hp=>nomatch hp)).weak wl wk
    have c9:∀b∈fp,∃o,s5.heap.get? b=some o/\s7.heap.get? b=some o/\H7 b=none:=λb hb=>by
     obtain ⟨o,e,_⟩:=T.obj _ _ cM b hb
     have q:=I7.pin (b,o) (yP _ (yP _ (lW hb e)))
     exact ⟨o,e,q.1,q.2.1⟩
    refine ⟨m',hm,i+1,ys,H7,its,k,I9.pins_of (dY mm iB λv e=>by cases e),rv,T.keep (i+1) _ _ cM λb hb o e=>?_,λb hb=>?_,w7⟩
    ·obtain ⟨o',e1,e2,_⟩:=c9 b hb
     rw [e] at e1
     cases e1
     exact e2
    ·obtain ⟨_,_,_,q⟩:=c9 b hb
     exact q
 exact codeAny_compStart_list loop (T.self X.A 0 _ _ _ (T.keep 0 _ _ aK (λb hb o e=>old b o e)) loop)
def vW {X:Cx} {elt iter:Expr} {x:Str} {px pos:Pos} {scope:Scope} {wi:TI} {te:TE} {M:Ad} (hc:X.calm=true) (S:b_ X.env.scope scope x) (eN:Hid scope M X.N) (cX:((".0" : Str)::x::M).Nodup)
  (hi:PI X (.Name x px) iter wi) (he:∀cl C ae ah fp,PE (gv X M scope cl x C ae ah fp (λ_ _=>False)) elt te)
  (hs:∀v,foldedSetIterable iter X.env v=pure v:=by intro _;rfl):PE X (.ListComp elt [⟨.Name x px,iter,[],0⟩] scope pos) (qM wi te):=by
 have hN:([x]++M).Nodup:=(wC.mp cX).2
 have S':eG X.env.scope scope [x]:=⟨S.kind,S.ncell,λy hy h=>⟨(S.names y hy h).1,(S.names y hy h).2.imp (λe=>by rw [e];exact List.mem_singleton_self _) id⟩,S.free⟩
 have ml:∀cl C ae ah fp E,PG (d6 X M scope cl [x] C ae ah fp E) (.Name x px) (kP 0):=λcl C ae ah fp E=>qq (X:=d6 X M scope cl [x] C ae ah fp E) (i:=0) hN rfl (.inl (nJ S.hx)) (.inr (nJ S.hx))
 have e:∀σ Q,(λJ H1=>ic J te σ Q H1)=λJ H1=>fP J (kP 0) og te 1 σ Q H1:=fun σ Q=>by
  funext J H1
  exact propext (exists_congr λW=>and_congr Iff.rfl (forall_congr' λi=>forall_congr' λm=>forall_congr' λys=>forall_congr' λH=>imp_congr Iff.rfl (or_congr Iff.rfl (and_congr Iff.rfl (and_congr Iff.rfl (forall_congr' λz=>forall_congr' λH'=>imp_congr Iff.rfl
   ⟨λh=>⟨[some z],rfl,rfl,h⟩,λ⟨_,_,_,h⟩=>h⟩))))))
 intro pins s σ H Q I h
 refine G9 (te:=te) (tt:=og) hc S' eN cX hi ml (λcl C ae ah fp=>G6) (λcl C ae ah fp=>he cl C ae ah fp) hs pins s σ H Q I ?_
 show wi σ H λJ H1=>fP J (kP 0) og te 1 σ Q H1
 rw [<-e]
 exact h
end L2
namespace L2
open PySem PySem.Spec PyProof.Rows
def Hc {X:Cx} {elt iter:Expr} {x:Str} {px pos:Pos} {scope:Scope} {wi:TI} {te:TE} {N:Ad} (hc:X.calm=true) (S:b_ X.env.scope scope x) (eN:X.N=N) (cX:((".0" : Str)::x::N).Nodup)
  (hi:PI X (.Name x px) iter wi) (he:∀cl C ae ah fp,PE (qK X scope cl x C ae ah fp (λ_ _=>False)) elt te)
  (hs:∀v,foldedSetIterable iter X.env v=pure v:=by intro _;rfl):PE X (.ListComp elt [⟨.Name x px,iter,[],0⟩] scope pos) (qM wi te) :=
 vW hc S Hid.refl (eN▸cX) hi he hs
def qW (z:Str):It:=⟨λi _=>i<z.cps.size,λi H v H'=>H'=H/\∃c,z.cps[i]?=some c/\v=.str ⟨#[c]⟩,λi _=>z.cps.size<=i⟩
def vX {P:Program} {w:World} {K:PySem.W.Frag} {tg:Expr} (z:Str) (t:Tok) (it:Addr) (ty:String) (kS:ty = "str_ascii_iterator" \/ ty = "str_iterator"):Turn P w K tg (qW z) [it] it (λi h=>h.IsStrIter it ty z t i) where
 mem:=by simp
 obj:=λi h st b hb=>by
  have e:b=it:=by simpa using hb
  subst e
  obtain ⟨o,e,c,d⟩:=st
  exact ⟨o,e,λv z=>by rw [d] at z;cases z⟩
 keep:=λi h h' st k=>by
  obtain ⟨o,e,r⟩:=st
  exact ⟨o,k it (by simp) o e,r⟩
 item:=by
  intro X hP hw hK hc i pins s σ H E I hf st hg
  subst hP hw hK
  obtain ⟨f0,f1,f2,f3,f4,f5⟩:=hf it (by simp)
  have W:Walks X.prog X.w X.A it [it] [it] z.cps.size (SignAt z) (λi h=>h.IsStrIter it ty z t i):=by
   rcases kS with e|e
   ·rw [e];exact Walks.strAscii (I.ok.hd hc) it z t
   ·rw [e];exact Walks.strWide (I.ok.hd hc) it z t
  refine W.item i s _ _ hg st λv h' tk hv aR kk=>?_
  obtain ⟨c,u,Hd,rfl⟩:=hv
  have I1:Inv X pins σ H { s with heap:=h',toks:=tk }:=I.turned (λb o hb e=>kk b o (by simpa using hb) e) f0 f1 f3 f4 f5
  obtain ⟨o,e,cc,d⟩:=id aR
  exact ⟨_,rfl,kQ (s:={ s with heap:=h',toks:=tk }) e cc d (by rcases kS with e|e<;>rw [e]<;>decide) ⟨.str ⟨#[c]⟩,H,I1,⟨u,rfl⟩,⟨rfl,c,Hd,rfl⟩,aR,λb hb=>(hf b hb).1⟩⟩
 done:=by
  intro X hP hw hK hc i pins s σ H E I hf st hg
  subst hP hw hK
  obtain ⟨f0,f1,f2,f3,f4,f5⟩:=hf it (by simp)
  have hn:z.cps[i]?=none:=by
   have He:z.cps.size<=i:=hg
   simpa using He
  rcases kS with e|e
  ·rw [e] at st
   exact wpAny_pyNext_ascii_end (I.ok.hd hc) st hn λh' eb=>⟨rfl,I.turned (t':=s.toks) (λb o hb e=>eb b o hb e) f0 f1 f3 f4 f5⟩
  ·rw [e] at st
   exact wpAny_pyNext_wide_end (I.ok.hd hc) st hn λh' eb=>⟨rfl,I.turned (t':=s.toks) (λb o hb e=>eb b o hb e) f0 f1 f3 f4 f5⟩
 self:=λA i s Q E st h=>by
  rcases kS with e|e
  ·rw [e] at st;exact wpAny_pyIter_striter_ascii st h
  ·rw [e] at st;exact wpAny_pyIter_striter_wide st h
section
variable {X:Cx}
def Hf:fN X (λx lo hi H Q=>∃z,x=.str z/\z.length<=sizeLine/\Q (.str (Txt.slice z lo hi)) H):=by
 intro pins s σ H x v vl vu lo hi sl Q I rx hs pl pu h
 obtain ⟨z,rfl,hz,q⟩:=h
 obtain ⟨t,rfl⟩:=rx
 refine ⟨"str", _,F.slot_str_getitem.lookup,typeIs_str _ _ _,?_⟩
 have fin:∀t' k,EP X pins σ Q (.str (Txt.slice z lo hi) t') { s with toks:=k }:=λt' k=>⟨.str _,H,I.tok _,⟨_,rfl⟩,q⟩
 cases pl with
 |none =>
  cases pu with
  |none=>exact wpAny_getItem_str_slice (l:=none) (u:=none) (st:=none) hs rfl (post_val_or_str ⟨yW (Txt.slice_le z _ _) hz,fin⟩)
  |int j uj=>exact wpAny_getItem_str_slice (l:=none) (u:=some (j,uj)) (st:=none) hs rfl (post_val_or_str ⟨yW (Txt.slice_le z _ _) hz,fin⟩)
 |int i ui =>
  cases pu with
  |none=>exact wpAny_getItem_str_slice (l:=some (i,ui)) (u:=none) (st:=none) hs rfl (post_val_or_str ⟨yW (Txt.slice_le z _ _) hz,fin⟩)
  |int j uj=>exact wpAny_getItem_str_slice (l:=some (i,ui)) (u:=some (j,uj)) (st:=none) hs rfl (post_val_or_str ⟨yW (Txt.slice_le z _ _) hz,fin⟩)
theorem vY:∀{bs:List Bool}{us:Af},Vals (bs.map V.bl) us->us=bs.map Value.bool
 |[],us,r=>by rw [List.map_nil] at r;cases r;rfl
 |b::bs,us,r=>by
  rw [yi] at r
  cases r with
  |cons r1 r2 =>
   have e:_=Value.bool b:=r1
   rw [yi,<-vY r2,e]
theorem cP:∀{ys:Ad}{us:Af},Vals (ys.map V.str) us->StrsAre us ys
 |[],us,r=>by rw [List.map_nil] at r;cases r;exact .nil
 |y::ys,us,r=>by
  rw [yi] at r
  cases r with
  |cons r1 r2 =>
   obtain ⟨t,e⟩:=r1
   subst e
   exact .cons y t (cP r2)
def Hg (hc:X.calm=true):bq X (.builtin "all") (λxs H Q=>∃(a:Addr) (bs:List Bool),xs=[.ref a]/\a_ X.K H a (bs.map V.bl)/\Q (.bl (bs.all id)) H):=by
 intro pins s σ H xs us Q I r h
 obtain ⟨a,bs,rfl,hl,q⟩:=h
 obtain ⟨u,rfl,ru⟩:=hZ r
 cases ru
 obtain ⟨its,rv,pl,hz⟩:=I.list hl
 have e:=vY rv
 subst e
 refine call_all_walk (wpAny_pyIter_list pl.isList ?_)
 have hh:X.A.in1.handled=none:=I.ok.hd hc
 have bg:a<s.heap.objs.size:=by
  obtain ⟨o,e,_⟩:=pl.isList
  exact yb e
 have gA:a≠s.heap.objs.size:=yB bg
 refine ⟨s.heap.objs.size,_,_,_,_,_,λi=>(bs[i]?).getD true,rfl,Walks.list hh s.heap.objs.size a gA (bs.map Value.bool).toArray,⟨⟨_,yV _ rfl,rfl,rfl⟩,pl.isList.at λo e=>z8 _ e⟩,?_,λh' tk kk=>?_⟩
 ·intro i v s' Q' E' hp hq
  have hp':(bs.map Value.bool)[i]?=some v:=by simpa using hp
  rw [y7] at hp'
  cases eb:bs[i]? with
  |none=>rw [eb] at hp';cases hp'
  |some b =>
   rw [eb] at hp'
   have:Value.bool b=v:=Option.some.inj hp'
   subst this
   refine hI ?_
   dsimp only at hq
   rw [eb] at hq
   exact hq
 ·have e1:(List.range (bs.map Value.bool).toArray.size).all (λi=>(bs[i]?).getD true)=bs.all id:=by
   rw [yO,yX]
   rw [Bool.eq_iff_iff,List.all_eq_true,List.all_eq_true]
   constructor
   ·intro hh b hb
    obtain ⟨i,hi,e⟩:=nK hb
    have:=hh i (List.mem_range.mpr hi)
    rw [yc hi,e] at this
    exact this
   ·intro hh i hi
    have kW:=List.mem_range.mp hi
    rw [yc kW]
    exact hh _ (lS kW)
  rw [e1]
  refine ⟨.bl (bs.all id),H,?_,rfl,q⟩
  exact I.kept (t':=tk) λb o e=>kk b o (λz=>by
   have z':b=s.heap.objs.size:=by simpa using z
   exact absurd (yb e) (by rw [z'];exact Nat.lt_irrefl _)) (z8 _ e)
def Hh:vB X "str.join" (λx xs H Q=>∃(z:Str) (a:Addr) (ys:Ad),x=.str z/\xs=[.ref a]/\a_ X.K H a (ys.map V.str)/\(ys.map (·.length)).sum+ys.length*z.length<=16777216/\Q (.str (Txt.join z ys)) H):=by
 intro pins s σ H x xs v us Q I rx r h
 obtain ⟨z,a,ys,rfl,rfl,hl,hz,q⟩:=h
 obtain ⟨t,rfl⟩:=rx
 obtain ⟨u,rfl,ru⟩:=hZ r
 cases ru
 obtain ⟨its,rv,pl,_⟩:=I.list hl
 exact join_list pl.isList (by simpa using cP rv) hz λt' k=>⟨.str _,H,I.tok _,⟨_,rfl⟩,q⟩
def eR:bq X (.builtin "isinstance") (λxs H Q=>∃x n t b,xs=[x,.ty n]/\cj X.K H x t/\PySem.W.kitOne X.K t (.type n)=some b/\Q (.bl b) H):=by
 intro pins s σ H xs us Q I r h
 obtain ⟨x,n,t,b,rfl,ty,e,q⟩:=h
 obtain ⟨u,w',rfl,ru,ck⟩:=qv r
 have e2:w'=Value.type n:=ck
 subst e2
 exact qz I ru ty e λtk=>⟨.bl b,H,I.tok _,rfl,q⟩
def Hi:bq X (.type "int") (λxs H Q=>∃z n,xs=[.str z]/\PySem.intText? z=some n/\z.length<=640/\Q (.int n) H):=by
 intro pins s σ H xs us Q I r h
 obtain ⟨z,n,rfl,hn,hz,q⟩:=h
 obtain ⟨u,rfl,t,rfl⟩:=hZ r
 exact PySem.W.KIN.call_text hn hz ⟨.int n,H,I.tok _,⟨_,rfl⟩,q⟩
def Hj:bb X (compareOp .In) (λx y H Q=>∃(c:Nat) (z:Str),x=.str ⟨#[c]⟩/\y=.str z/\Q (.bl (decide (c∈z.cps.toList))) H):=by
 intro pins s σ H x y v u Q I rx ry h
 obtain ⟨c,z,rfl,rfl,q⟩:=h
 refine Fy pins s σ H _ _ v u Q I rx ry ⟨_,_,rfl,rfl,?_⟩
 rw [StrLaws.found_one]
 exact q
end
section
variable {κ:Type} [DecidableEq κ]
def cw (kvs:List (κ×V)) (k:κ):Option V:=(kvs.find? λkv=>decide (kv.1=k)).map (·.2)
def putK (kvs:List (κ×V)) (k:κ) (v:V):List (κ×V) :=
 if (kvs.any λkv=>decide (kv.1=k))=true then kvs.map (λkv=>if kv.1=k then (kv.1,v) else kv) else kvs++[(k,v)]
def oh {p:κ×V}{r:List (κ×V)}{k:κ}(e:p.1=k):cw (p::r) k=some p.2:=by simp [cw,List.find?_cons,e]
def oi {p:κ×V}{r:List (κ×V)}{k:κ}(e:¬p.1=k):cw (p::r) k=cw r k:=by simp [cw,List.find?_cons,e]
theorem vZ (k:κ):∀kvs:List (κ×V),(kvs.any λkv=>decide (kv.1=k))=(cw kvs k).isSome
 |[]=>rfl
 |p::r=>by
  rw [List.any_cons]
  by_cases e:p.1=k
  ·simp only [oh e,wf e,Bool.true_or,Option.isSome_some]
  ·rw [oi e,js e,Bool.false_or];exact vZ k r
def v3 (kvs:List (κ×V)) (k:κ) (v:V):(putK kvs k v).length<=kvs.length+1:=by
 unfold putK
 split
 ·rw [yX];omega
 ·rw [jc,yA,List.length_nil];omega
def bL.isSome_eq {o:Option V}{u:Option Value}(r:bL o u):o.isSome=u.isSome:=by
 cases o with
 | none=>cases u with
  |none=>rfl
  |some _=>exact (show False from r).elim
 | some _=>cases u with
  |none=>exact (show False from r).elim
  |some _=>rfl
theorem bL.getD {o:Option V}{u:Option Value}{d:V}{d':Value}(r:bL o u) (rd:RelV d d'):RelV (o.getD d) (u.getD d'):=by
 cases o with
 | none=>cases u with
  |none=>exact rd
  |some _=>exact (show False from r).elim
 | some _=>cases u with
  |none=>exact (show False from r).elim
  |some _=>exact r
def KV.val {kvs:List (κ×V)}{vs:List (κ×Value)}(r:KV kvs vs) (k:κ):bL (cw kvs k) (valueAt vs k):=by
 unfold KV at r
 induction r with
 |nil=>exact True.intro
 |@cons p q ps qs h t ih =>
  obtain ⟨h1,h2⟩:=h
  by_cases e:p.1=k
  ·have e':q.1=k:=h1.symm.trans e
   have b:valueAt (q::qs) k=some q.2:=by simp [valueAt,List.find?_cons,e']
   rw [oh e,b];exact h2
  ·have e':¬q.1=k:=λz=>e (h1.trans z)
   have b:valueAt (q::qs) k=valueAt qs k:=by simp [valueAt,List.find?_cons,e']
   rw [oi e,b];exact ih
theorem KV.any {kvs:List (κ×V)}{vs:List (κ×Value)}(r:KV kvs vs) (k:κ):(kvs.any λkv=>decide (kv.1=k))=vs.any λkv=>decide (kv.1=k):=by
 unfold KV at r
 induction r with
 |nil=>rfl
 |cons h t ih=>rw [List.any_cons,List.any_cons,ih,h.1]
def KV.repl {kvs:List (κ×V)}{vs:List (κ×Value)}(r:KV kvs vs) (k:κ) {y:V}{u:Value}(ry:RelV y u) :
  KV (kvs.map λkv=>if kv.1=k then (kv.1,y) else kv) (vs.map λkv=>if kv.1=k then (kv.1,u) else kv):=by
 unfold KV at r ⊢
 induction r with
 |nil=>exact .nil
 |@cons p q ps qs h t ih =>
  rw [yi,yi]
  refine .cons ?_ ih
  obtain ⟨h1,h2⟩:=h
  by_cases e:p.1=k
  ·rw [zj e,zj (h1.symm.trans e)];exact ⟨h1,ry⟩
  ·rw [zx e,zx (λz=>e (h1.trans z))];exact ⟨h1,h2⟩
def KV.put {kvs:List (κ×V)}{vs:List (κ×Value)}(r:KV kvs vs) (k:κ) {y:V}{u:Value}(ry:RelV y u):KV (putK kvs k y) (stored vs k u):=by
 unfold putK stored
 rw [r.any k]
 by_cases e:(vs.any λkv=>decide (kv.1=k))=true
 ·rw [zj e,zj e];exact r.repl k ry
 ·rw [zx e,zx e];exact Paired.snoc r ⟨rfl,ry⟩
def KV.keys {kvs:List (κ×V)}{vs:List (κ×Value)}(r:KV kvs vs):kvs.map (·.1)=vs.map (·.1):=by
 unfold KV at r
 induction r with
 |nil=>rfl
 |cons h t ih=>rw [yi,yi,ih,h.1]
theorem KV.length {kvs:List (κ×V)}{vs:List (κ×Value)}(r:KV kvs vs):kvs.length=vs.length:=Paired.length r
end
def oj {P:Program}{w:World}{k:Key}{u:Value}(r:RelV (kV k) u):(aX P w).is k u=true:=by
 cases k with
 |inl i=>obtain ⟨t,e⟩:=(show ∃t,u=Value.int i t from r);subst e;exact Eh P w i t
 |inr x=>obtain ⟨t,e⟩:=(show ∃t,u=Value.str x t from r);subst e;exact Ei P w x t
theorem v5 {P:Program}{w:World}:∀{ks:List Key}{us:Af},Vals (ks.map kV) us->ItemsAre (aX P w) ks us
 |[],_,r=>by rw [List.map_nil] at r;cases r;exact .nil
 |k::ks,_,r=>by
  rw [yi] at r
  cases r with
  |cons h t=>exact .cons (oj h) (v5 t)
abbrev KT (H:Hp):List (List Key×V)->List (List Key×Addr×Value)->Prop:=Paired λp q=>p.1=q.1/\H q.2.1=some (.tup (p.1.map kV))/\RelV p.2 q.2.2
def KT.val {H:Hp}{kvs:List (List Key×V)}{xs:List (List Key×Addr×Value)}(r:KT H kvs xs) (k:List Key):bL (cw kvs k) ((atKey xs k).map (·.2)):=by
 induction r with
 |nil=>exact True.intro
 |@cons p q ps qs h t ih =>
  obtain ⟨h1,_,h2⟩:=h
  by_cases e:p.1=k
  ·have e':q.1=k:=h1.symm.trans e
   have b:atKey (q::qs) k=some q.2:=by simp [atKey,List.find?_cons,e']
   rw [oh e,b];exact h2
  ·have e':¬q.1=k:=λz=>e (h1.trans z)
   have b:atKey (q::qs) k=atKey qs k:=by simp [atKey,List.find?_cons,e']
   rw [oi e,b];exact ih
def KT.repl {H:Hp}{kvs:List (List Key×V)}{xs:List (List Key×Addr×Value)}(r:KT H kvs xs) (k:List Key) {y:V}{u:Value}(ry:RelV y u) :
  KT H (kvs.map λkv=>if kv.1=k then (kv.1,y) else kv) (xs.map (putAt k u)):=by
 induction r with
 |nil=>exact .nil
 |@cons p q ps qs h t ih =>
  rw [yi,yi]
  refine .cons ?_ ih
  obtain ⟨h1,h2,h3⟩:=h
  unfold putAt
  by_cases e:p.1=k
  ·rw [zj e,zj (h1.symm.trans e)];exact ⟨h1,h2,ry⟩
  ·rw [zx e,zx (λz=>e (h1.trans z))];exact ⟨h1,h2,h3⟩
def KT.put {H:Hp}{kvs:List (List Key×V)}{xs:List (List Key×Addr×Value)}(r:KT H kvs xs) (k:List Key) {b:Addr}{y:V}{u:Value}(hb:H b=some (.tup (k.map kV))) (ry:RelV y u) :
  KT H (putK kvs k y) (storedH xs k b u):=by
 have e:(kvs.any λkv=>decide (kv.1=k))=(atKey xs k).isSome:=by
  rw [vZ,(r.val k).isSome_eq,Option.isSome_map]
 unfold putK storedH
 rw [e]
 by_cases q:(atKey xs k).isSome=true
 ·rw [zj q,zj q];exact r.repl k ry
 ·rw [zx q,zx q];exact Paired.snoc r ⟨rfl,hb,ry⟩
def KT.keeps {H H':Hp}{kvs:List (List Key×V)}{xs:List (List Key×Addr×Value)}(r:KT H kvs xs) (ht:∀b ys,H b=some (.tup ys)->H' b=some (.tup ys)):KT H' kvs xs :=
 Paired.mapP r λ_ _ z=>⟨z.1,ht _ _ z.2.1,z.2.2⟩
section
variable {P:Program} {w:World} {H:Hp} {h:Heap} {a:Addr}
def v7 {u:HO}(ok:bI P w H h) (e:Rd H a u):aU P w H h a u:=e.ok ok
def gE {kvs:List (Key×V)}(ok:bI P w H h) (e:Rd H a (.dK kvs)):kvs.length<=sizeLine/\(a==sysModules)=false/\∃vs,KV kvs vs/\h.DictOf (aX P w) a vs :=
 show aU P w H h a (.dK kvs) from v7 ok e
def Hk {kvs:List (Key×V)}(ok:bI P w H h) (e:H a=some (.dK kvs)):kvs.length<=sizeLine/\(a==sysModules)=false/\∃vs,KV kvs vs/\h.DictOf (aX P w) a vs:=gE ok (.inl e)
def om {ks:List Key}(ok:bI P w H h) (e:H a=some (.tup (ks.map kV))):(tupleKind (aX P w)).is h ks a:=by
 obtain ⟨_,its,r,o,h1,h2,n,h3⟩:=(show aU P w H h a (.tup (ks.map kV)) from ok a _ e)
 exact ⟨o,its.toArray,n,h1,h2,h3,by simpa using v5 r⟩
def oo {kvs:List (List Key×V)}(ok:bI P w H h) (e:Rd H a (.dT kvs)):kvs.length<=sizeLine/\(a==sysModules)=false /\
  ∃xs,KT H kvs xs/\h.DictOfH (tupleKind (aX P w)) a xs:=by
 obtain ⟨z,y,xs,r,o,es,ep,h1,h2,h3,h4,h5⟩:=(show aU P w H h a (.dT kvs) from v7 ok e)
 refine ⟨z,y,xs,r,o,es,ep,h1,h2,h3,h4,λx hx=>?_,h5⟩
 have all:∀{l:List (List Key×V)} {m:List (List Key×Addr×Value)},KT H l m->∀x∈m,(tupleKind (aX P w)).is h x.1 x.2.1:=by
  intro l m q
  induction q with
  |nil=>intro x hx;exact nomatch hx
  |@cons p q ps qs hq t ih =>
   intro x hx
   rcases yn.mp hx with e|hx
   ·subst e
    exact om ok (by rw [<-hq.1];exact hq.2.1)
   ·exact ih x hx
 exact all r x hx
def Hl {kvs:List (List Key×V)}(ok:bI P w H h) (e:H a=some (.dT kvs)):kvs.length<=sizeLine/\(a==sysModules)=false /\
  ∃xs,KT H kvs xs/\h.DictOfH (tupleKind (aX P w)) a xs:=oo ok (.inl e)
end
def c_ (H:Hp) (a:Addr) (y:V) (r:Option V):Prop :=
 (∃kvs k,Rd H a (.dK kvs)/\y=kV k/\r=cw kvs k)\/∃kvs k b,Rd H a (.dT kvs)/\y=.ref b/\H b=some (.tup (k.map kV))/\r=cw kvs k
def eS (H:Hp) (a:Addr) (y v:V) (H':Hp):Prop :=
 (∃kvs k,H a=some (.dK kvs)/\y=kV k/\kvs.length<sizeLine/\H'=upd H a (.dK (putK kvs k v))) \/
 ∃kvs k b,H a=some (.dT kvs)/\y=.ref b/\H b=some (.tup (k.map kV))/\kvs.length<sizeLine/\H'=upd H a (.dT (putK kvs k v))
theorem c_.k {H:Hp}{a:Addr}{kvs:List (Key×V)}{k:Key}(e:H a=some (.dK kvs)):c_ H a (kV k) (cw kvs k):=.inl ⟨kvs,k,.inl e,rfl,rfl⟩
def c_.t {H:Hp}{a b:Addr}{kvs:List (List Key×V)}{k:List Key}(e:H a=some (.dT kvs)) (eb:H b=some (.tup (k.map kV))):c_ H a (.ref b) (cw kvs k):=.inr ⟨kvs,k,b,.inl e,rfl,eb,rfl⟩
theorem eS.k {H:Hp}{a:Addr}{kvs:List (Key×V)}{k:Key}{v:V}(e:H a=some (.dK kvs)) (hl:kvs.length<sizeLine):eS H a (kV k) v (upd H a (.dK (putK kvs k v))):=.inl ⟨kvs,k,e,rfl,hl,rfl⟩
def eS.t {H:Hp}{a b:Addr}{kvs:List (List Key×V)}{k:List Key}{v:V}(e:H a=some (.dT kvs)) (eb:H b=some (.tup (k.map kV))) (hl:kvs.length<sizeLine) :
  eS H a (.ref b) v (upd H a (.dT (putK kvs k v))):=.inr ⟨kvs,k,b,e,rfl,eb,hl,rfl⟩
section
variable {X:Cx} {pins:Ac} {σ:St} {H:Hp} {s:Shared} {a:Addr} {y v:V} {u r:Value} {o:Option V} {A:Around} {E:Aa}
def Inv.big (I:Inv X pins σ H s):sysModules<s.heap.objs.size:=by
 have h:mainGlobals<s.heap.objs.size:=(I.mod.glob.keeps I.bk).lt
 exact Nat.lt_trans (by decide) h
def Hm {Q:Aa}(hu:A.units+1<cLine) (I:Inv X pins σ H s) (g:c_ H a y (some v)) (ry:RelV y u) (h:∀w' s',Inv X pins σ H s'->RelV v w'->Q w' s') :
  wpAny (model X.prog X.w) A (getItem (.ref a) u) Q E s:=by
 rcases g with ⟨kvs,k,e,ey,l⟩|⟨kvs,k,b,e,ey,eb,l⟩
 ·subst ey
  obtain ⟨z,hd,vs,rel,dd⟩:=gE I.hok e
  obtain ⟨w',hw,ck⟩:=bL.some_of (v:=v) (o:=valueAt vs k) (by rw [l];exact rel.val k)
  exact wpAny_getItem_of (oj ry) dd.mapOf hw (h w' _ (I.tok _) ck)
 ·subst ey
  cases (show u=Value.ref b from ry)
  obtain ⟨z,hd,xs,rel,dd⟩:=oo I.hok e
  obtain ⟨w',hw,ck⟩:=bL.some_of (v:=v) (o:=(atKey xs k).map (·.2)) (by rw [l];exact rel.val k)
  obtain ⟨p,hp,cY⟩:=Option.map_eq_some_iff.mp hw
  refine wpAny_getItem_heap (tupleKind_room_in1 hu) (om I.hok eb) dd hp ?_
  rw [cY]
  exact h w' _ (I.tok _) ck
def Hn {Q:Aa}(hu:A.units+1<cLine) (I:Inv X pins σ H s) (g:c_ H a y o) (ry:RelV y u) (h:∀s',Inv X pins σ H s'->Q (.bool o.isSome) s') :
  wpAny (model X.prog X.w) A (compareOp .In u (.ref a)) Q E s:=by
 rcases g with ⟨kvs,k,e,ey,l⟩|⟨kvs,k,b,e,ey,eb,l⟩
 ·subst ey
  obtain ⟨z,hd,vs,rel,dd⟩:=gE I.hok e
  refine wpAny_in_of (oj ry) hd dd.mapOf ?_
  rw [<-(rel.val k).isSome_eq,<-l]
  exact h _ (I.tok _)
 ·subst ey
  cases (show u=Value.ref b from ry)
  obtain ⟨z,hd,xs,rel,dd⟩:=oo I.hok e
  refine wpAny_in_heap (tupleKind_room_in1 hu) (om I.hok eb) hd dd ?_
  have q:=(rel.val k).isSome_eq
  rw [Option.isSome_map] at q
  rw [<-q,<-l]
  exact h _ (I.tok _)
def v8 {h':Heap}{t':Nat}{ob:HO}(I:Inv X pins σ H s) (mu:kL (H a)) (hs:Heap.SameBut a s.heap h') (he:∃q,h'.get? a=some q) (new:aU X.prog X.w (upd H a ob) h' a ob) :
  Inv X pins σ (upd H a ob) { s with heap:=h',toks:=t' } :=
 I.write (x:=a) (e:=a) mu (.inl rfl) (λb q hb z=>(hs.2 b hb).trans z) he new
def Ho {P:Program}{w:World}{H':Hp}{h':Heap}{kvs:List (Key×V)}{vs:List (Key×Value)}(z:kvs.length<=sizeLine) (hd:(a==sysModules)=false) (rel:KV kvs vs) (dd:h'.DictOf (aX P w) a vs) :
  aU P w H' h' a (.dK kvs):=⟨z,hd,vs,rel,dd⟩
def Hq {H':Hp}{Q:Unit->Shared->Prop}(hu:A.units+1<cLine) (I:Inv X pins σ H s) (g:eS H a y v H') (ry:RelV y u) (rv:RelV v r) (h:∀s',Inv X pins σ H' s'->Q () s') :
  wpAny (model X.prog X.w) A (setItem (.ref a) u r) Q E s:=by
 rcases g with ⟨kvs,k,e,ey,l,eH⟩|⟨kvs,k,b,e,ey,eb,l,eH⟩
 ·subst ey eH
  obtain ⟨z,hd,vs,rel,dd⟩:=Hk I.hok e
  have hz:vs.length<=sizeLine:=by rw [<-rel.length];exact z
  have hl:(putK kvs k v).length<=sizeLine:=by have:=v3 kvs k v;omega
  refine wpAny_setItem_pairs (hsz:=hz) (oj ry) dd λh' kX hs=>h _ ?_
  have he:∃q,h'.get? a=some q:=let ⟨q,_,_,hq,_⟩:=kX;⟨q,hq⟩
  exact v8 I (by rw [e];exact True.intro) hs he (Ho hl hd (rel.put k rv) kX)
 ·subst ey eH
  cases (show u=Value.ref b from ry)
  obtain ⟨z,hd,xs,rel,dd⟩:=Hl I.hok e
  have hz:xs.length<=sizeLine:=by rw [<-Paired.length rel];exact z
  have hl:(putK kvs k v).length<=sizeLine:=by have:=v3 kvs k v;omega
  refine wpAny_setItem_heap (hsz:=hz) (tupleKind_room_in1 hu) (om I.hok eb) dd λh' kX hs=>h _ ?_
  obtain ⟨q,es,ep,hq,h2,h3,h4,_,h5⟩:=kX
  refine v8 I (by rw [e];exact True.intro) hs ⟨q,hq⟩ ⟨hl,hd,_,(rel.put k eb rv).keeps λc ys ec=>?_,q,es,ep,hq,h2,h3,h4,h5⟩
  rw [zR (Ej ec e (λz=>nomatch z))]
  exact ec
end
section
variable {X:Cx} {pins:Ac} {σ:St} {H:Hp} {s:Shared} {a:Addr} {kvs:List (Key×V)} {A:Around} {E:Aa}
def Hr {Q:Aa} (I:Inv X pins σ H s) (e:Rd H a (.dK kvs)) (h:∀t s',Inv X pins σ H s'->Q (.int kvs.length t) s'):wpAny (model X.prog X.w) A (call (.builtin "len") [.ref a]) Q E s:=by
 obtain ⟨z,hd,vs,rel,dd⟩:=gE I.hok e
 refine call_len_dict hd dd (by rw [<-rel.length];rw [sizeLine_eq] at z;omega) ?_
 rw [<-rel.length]
 exact h _ _ (I.tok _)
end
def Ht {X:Cx} {pins:Ac} {σ:St} {H:Hp} {s:Shared} {a:Addr} {y:V} {o:Option V} (I:Inv X pins σ H s) (g:c_ H a y o):s.TypeIs (.ref a) "dict" := by
 rcases g with ⟨kvs,k,e,_,_⟩|⟨kvs,k,b,e,_,_,_⟩
 ·obtain ⟨_,_,vs,_,dd⟩:=gE I.hok e
  exact dd.typeIs
 ·obtain ⟨_,_,xs,_,dd⟩:=oo I.hok e
  exact dd.typeIs
def Hu (td ty tv:TE):TS:=λD σ H=>tv σ H λv H1=>td σ H1 λx H2=>ty σ H2 λy H3=>∃a H4,x=.ref a/\eS H3 a y v H4/\D.nx σ H4
section
variable {X:Cx} {o i value:Expr} {pos pos':Pos} {td ty tv:TE}
def Hv (hu:X.A.units+1<cLine) (ho:PE X o td) (hi:PE X i ty) (hv:PE X value tv) (hs:swapsWith value (some (.Subscript o i pos')) pos.line X.env=pure false) :
  PS X (.Assign [.Subscript o i pos'] value pos) (Hu td ty tv):=by
 intro pins s σ H D I h
 refine wpAny_Assign_Subscript (aO (hv pins s σ H _ I h) λr s1 ⟨v,H1,I1,rv,q1⟩=>aO (ho pins s1 σ H1 _ I1 q1) λu s2 ⟨x,H2,I2,rx,q2⟩=>aO (hi pins s2 σ H2 _ I2 q2) λiv s3 gg=>?_) hs
 obtain ⟨y,H3,I3,ry,a,H4,ex,g,q3⟩:=gg
 subst ex
 obtain rfl:u=Value.ref a:=rx
 exact Hq hu I3 g ry rv λs4 I4=>⟨σ,H4,I4,q3⟩
end
def Hw {P:Program} {w:World} {H:Hp} (h:Heap) (hb:sysModules<h.objs.size):aU P w H (h.push { cls:=.type "dict", data:=.dict #[] }) h.objs.size (.dK []) :=
 ⟨jP _,beq_eq_false_iff_ne.mpr (y0 (yB hb)),[],.nil,Heap.DictOf.new h⟩
def Hx:TE:=λ_ H Q=>∀p,H p=none->Q (.ref p) (upd H p (.dK []))
section
variable {X:Cx} {pos:Pos}
def Hy:PE X (.Dict [] [] pos) Hx:=λpins s σ H Q I h =>
 wpAny_Dict_empty ⟨.ref s.heap.objs.size,_,I.laid (a:=s.heap.objs.size) (o:=.dK []) (t':=s.toks) (λ_ _ q=>z8 _ q) (z0 _) (Hw s.heap I.big),rfl,h _ (I.hok.fresh (z0 _))⟩
end
structure M1 (X:Cx) (o:Expr) (m:Str) (apos:Pos) (e:Expr) (aS:Pos):Prop where
 base:attributeBase o m X.env (eval o X.env)=eval o X.env
 few:((backTo aS (starEach [e] X.env)).all (λx=>!x.1)&&(backToKw aS (keywordEach [] X.env)).all (λx=>x.1.isSome)
  && decide (([e]:List Expr).length+([]:List Keyword).length+(if ([]:List Keyword).isEmpty then 0 else 1)<30))=true
 line:(apos.endLine==aS.line)=true
 trees:backTo aS (starEach [e] X.env)=[(false,eval e X.env)]
structure M2 (X:Cx) (o:Expr) (m:Str) (apos:Pos) (e f:Expr) (aS:Pos):Prop where
 base:attributeBase o m X.env (eval o X.env)=eval o X.env
 few:((backTo aS (starEach [e,f] X.env)).all (λx=>!x.1)&&(backToKw aS (keywordEach [] X.env)).all (λx=>x.1.isSome)
  && decide (([e,f]:List Expr).length+([]:List Keyword).length+(if ([]:List Keyword).isEmpty then 0 else 1)<30))=true
 line:(apos.endLine==aS.line)=true
 trees:backTo aS (starEach [e,f] X.env)=[(false,eval e X.env),(false,eval f X.env)]
def XO (h:Heap) (a:Addr) (C:Value) (d:Option Addr) (head:Value):Prop :=
 ∃oe vs,h.get? a=some oe/\oe.cls=C/\oe.dict=d/\oe.data=.fields vs/\vs.size=6/\vs[1]?=some head
def TB (h:Heap) (T:Addr) (fl:Value):Prop:=∃oT ts,h.get? T=some oT/\oT.data=.fields ts/\ts[3]?=some fl
def Hz (o:Obj) (f):(o.mapFields f).dict=o.dict:=by
 obtain ⟨c,d,dt,sl⟩:=o
 cases dt<;>rfl
def XO.keeps {h h':Heap}{a:Addr}{C:Value}{d:Option Addr}{head:Value}(x:XO h a C d head) (k:∀o,h.get? a=some o->h'.get? a=some o):XO h' a C d head:=by
 obtain ⟨oe,vs,e,r⟩:=x
 exact ⟨oe,vs,k _ e,r⟩
def TB.keeps {h h':Heap}{T:Addr}{fl:Value}(x:TB h T fl) (k:∀o,h.get? T=some o->h'.get? T=some o):TB h' T fl:=by
 obtain ⟨oT,ts,e,r⟩:=x
 exact ⟨oT,ts,k _ e,r⟩
def XO.set1 {h:Heap}{a:Addr}{C:Value}{d:Option Addr}{head:Value}(x:XO h a C d head) (u:Value):XO (h.update a (Obj.mapFields (·.setIfInBounds 1 u))) a C d u:=by
 obtain ⟨oe,vs,e,hc,gF,hd,hz,h1⟩:=x
 have aW:=Obj.data_mapFields hd (·.setIfInBounds 1 u)
 refine ⟨_,_,Heap.get?_update_self _ e (Obj.isFreed_of_fields aW),(Obj.cls_mapFields _ _).trans hc,(Hz _ _).trans gF,aW,?_,?_⟩
 ·rw [Array.size_setIfInBounds];exact hz
 ·have:1<vs.size:=by omega
  simp [this]
def TB.set3 {h:Heap}{T:Addr}{fl:Value}(x:TB h T fl) (u:Value):TB (h.update T (Obj.mapFields (·.setIfInBounds 3 u))) T u:=by
 obtain ⟨oT,ts,e,hd,h3⟩:=x
 have aW:=Obj.data_mapFields hd (·.setIfInBounds 3 u)
 refine ⟨_,_,Heap.get?_update_self _ e (Obj.isFreed_of_fields aW),aW,?_⟩
 have:3<ts.size:=(Array.getElem?_eq_some_iff.mp h3).1
 simp [this]
section
variable {M:Model} {A:Around} {E:Aa} {s:Shared} {base:Heap} {env:Env} {outer:List Env} {L a:Addr} {C:Value} {d:Option Addr} {head:Value} {Q:Unit->Shared->Prop}
def v9 {b2:Bool}(cz:A.frames=some (env::outer)) (hl:s.heap.FunFrames base (env::outer)) (hf:env.frame=some L) (x:XO s.heap a C d head)
  (h:∀h' T,s.heap.objs.size<=T->XO h' a C d (.ref T)->TB h' T (rawInt L)->(∀b o,b≠a->b∉cg (env::outer)->s.heap.get? b=some o->h'.get? b=some o) ->
   (∀b o,b≠a->b∈cg (env::outer)->s.heap.get? b=some o->∃sl,h'.get? b=some { o with slots:=sl })->Q () { s with heap:=h' }) :
  wpAny M A (do let fr <-frameOf env;let pl <-entryPlaceOf L b2;let tb <-EntryCells.newEntry head fr .none (rawInt L) .none pl;setField (.ref a) 1 tb) Q E s:=by
 obtain ⟨oe,vs,e,hc,gF,hd,hz,h1⟩:=id x
 have aN:a∉cg (env::outer):=λhm=>by
  obtain ⟨_,o,ho,nf⟩:=hl.mem hm
  rw [e] at ho
  cases ho
  exact nf vs hd
 refine zy (wpAny_frameOf_fun cz hl hf λg1 ou=>zy (wpAny_entryPlaceOf λpl v_=>?_))
 unfold EntryCells.newEntry newFields
 refine zy (hG ?_ (v_.sizeOk5 _ _ _ _ _))
 have x1:XO g1 a C d head:=⟨oe,vs,(ou.2.1 a aN).trans e,hc,gF,hd,hz,h1⟩
 generalize hob:({ cls:=.type "traceback", dict:=none,data:=.fields ([head,.ref L,.none,rawInt L,.none]++(if pl.isEmpty then List.replicate 6 Value.none else pl)).toArray }:Obj)=ob
 have x2:XO (g1.push ob) a C d head:=x1.keeps λo q=>z8 _ q
 obtain ⟨Pa,iC,e2,_,_,hd2,oy,_⟩:=id x2
 refine wpAny_setField e2 hd2 (by omega) ?_
 have aT:g1.objs.size≠a:=λz=>by
  obtain ⟨_,_,q,_⟩:=x1
  have:=yb q
  rw [<-z] at this
  exact Nat.lt_irrefl _ this
 have w_:s.heap.objs.size<=g1.objs.size:=Nat.le_of_eq ou.1.symm
 refine h _ g1.objs.size w_ (x2.set1 _) ?_ (λb o nb nf q=>?_) (λb o nb nf q=>?_)
 ·have t0:TB (g1.push ob) g1.objs.size (rawInt L):=by
   refine ⟨ob,_,yV _ (by rw [<-hob];rfl),by rw [<-hob],?_⟩
   rcases v_ with rfl|⟨_,_,_,_,_,_,_,rfl⟩<;>simp
  exact t0.keeps λo q=>(wT _ _ (y0 aT)).trans q
 ·exact (wT _ _ (y0 nb)).trans (z8 _ ((ou.2.1 b nf).trans q))
 ·obtain ⟨sl,z⟩:=ou.2.2 b o q
  exact ⟨sl,(wT _ _ (y0 nb)).trans (z8 _ z)⟩
def HA (cz:A.frames=some (env::outer)) (hl:s.heap.FunFrames base (env::outer)) (hf:env.frame=some L) (x:XO s.heap a C d head)
  (ht:head=.none\/∃T0,head=.ref T0/\T0≠a/\TB s.heap T0 .none)
  (h:∀h' T,s.heap.objs.size<=T->XO h' a C d (.ref T)->TB h' T (rawInt L)->(∀b o,b≠a->.ref b≠head->b∉cg (env::outer)->s.heap.get? b=some o->h'.get? b=some o) ->
   (∀b o,b∈cg (env::outer)->s.heap.get? b=some o->∃sl,h'.get? b=some { o with slots:=sl })->Q () { s with heap:=h' }) :
  wpAny M A (noteFrame (.ref a) env) Q E s:=by
 obtain ⟨oe,vs,e,hc,gF,hd,hz,h1⟩:=id x
 have aN:a∉cg (env::outer):=λhm=>by
  obtain ⟨_,o,ho,nf⟩:=hl.mem hm
  rw [e] at ho
  cases ho
  exact nf vs hd
 unfold noteFrame
 simp only [hf]
 refine zy (wS e hd h1 ?_)
 rcases ht with rfl|⟨T0,rfl,nT,t0⟩
 ·rw [zx (by decide)]
  exact v9 cz hl hf x λh' T k1 k2 k3 k4 k5=>h h' T k1 k2 k3 (λb o nb _ nf q=>k4 b o nb nf q) λb o hb q=>k5 b o (λz=>aN (z▸hb)) hb q
 ·obtain ⟨oT,ts,eT,hdT,h3⟩:=id t0
  have TN:T0∉cg (env::outer):=λhm=>by
   obtain ⟨_,o,ho,nf⟩:=hl.mem hm
   rw [eT] at ho
   cases ho
   exact nf ts hdT
  rw [zj (show (Value.ref T0 != Value.none)=true from by simp)]
  refine zy (wS eT hdT h3 ?_)
  rw [zx (show ¬((Value.none==rawInt L)=true) from by simp [rawInt])]
  refine zy (wpAny_setField eT hdT (Array.getElem?_eq_some_iff.mp h3).1 ?_)
  have oz:∀b,b≠T0->(s.heap.update T0 (Obj.mapFields (·.setIfInBounds 3 Value.none))).get? b=s.heap.get? b:=λb hb=>wT _ _ (y0 hb)
  refine v9 (s:={ s with heap:=s.heap.update T0 (Obj.mapFields (·.setIfInBounds 3 Value.none)) }) cz (hl.of_keeps λb o hb nf=>⟨o,(oz b λq=>?_).trans hb,rfl⟩) hf (x.keeps λo q=>(oz a (y0 nT)).trans q) λh' T k1 k2 k3 k4 k5 =>
   h h' T (by simpa using k1) k2 k3 (λb o nb nh nf q=>k4 b o nb nf ((oz b λz=>nh (by rw [z])).trans q)) λb o hb q=>k5 b o (λz=>aN (z▸hb)) hb ((oz b λz=>TN (z▸hb)).trans q)
  rw [q,eT] at hb
  cases hb
  exact nf ts hdT
def HB {T:Addr}{fl:Value}(x:XO s.heap a C d (.ref T)) (t:TB s.heap T fl) (ne:T≠a)
  (h:∀h',XO h' a C d (.ref T)->TB h' T .none->(∀b o,b≠T->s.heap.get? b=some o->h'.get? b=some o)->h'.objs.size=s.heap.objs.size->Q () { s with heap:=h' }):wpAny M A (setFlight (.ref a) none) Q E s:=by
 obtain ⟨oe,vs,e,_,_,hd,_,h1⟩:=id x
 obtain ⟨oT,ts,eT,hdT,h3⟩:=id t
 unfold setFlight
 refine zy (wS e hd h1 ?_)
 rw [zj (show (Value.ref T != Value.none)=true from by simp)]
 refine wpAny_setField eT hdT (Array.getElem?_eq_some_iff.mp h3).1 ?_
 exact h _ (x.keeps λo q=>(wT _ _ ne).trans q) (t.set3 _) (λb o nb q=>(wT _ _ (y0 nb)).trans q) (by simp)
end
def a0 (X:Cx) (pins:Ac) (H:Hp) (b:Addr):Prop :=
 H b=none/\X.s₀.heap.objs.size<=b/\b≠X.env.locals/\(∀x c,X.env.cells.lookup x=some c->c≠b)/\∀p∈X.pn++pins,p.1≠b
def a0.new {X:Cx}{pins:Ac}{σ:St}{H H':Hp}{s:Shared}{b:Addr}(I:Inv X pins σ H s) (hb:s.heap.objs.size<=b) (hn:H' b=none):a0 X pins H' b:=by
 obtain ⟨f0,f1,f2,f3,f4,f5⟩:=I.fpOk (H':=H') hb hn
 exact ⟨hn,yW I.sz hb,f1,f4,f5⟩
def oA (X:Cx) (pins:Ac) (H:Hp) (h:Heap) (a C:Addr) (d:Option Addr):Prop :=
 ∃head,XO h a (.ref C) d head/\a0 X pins H a/\(head=.none\/∃T,head=.ref T/\T≠a/\TB h T .none/\a0 X pins H T)
def Throws (X:Cx) (E:XK):Prop:=∀(pins:Ac) (σ:St) (H:Hp) (s:Shared) (a C:Addr) (d:Option Addr),Inv X pins σ H s->oA X pins H s.heap a C d->E (.ref C) d H->X.xe (.ref a) s
def bU (P:Program) (w:World):dv:=λouter H s E e s'=>∃(a C T:Addr) (d:Option Addr) (H':Hp),e=.ref a/\s'.os=s.os/\AllBare s'.gens/\Un (cg outer) [] H H' s.heap s'.heap/\bI P w H' s'.heap /\
 XO s'.heap a (.ref C) d (.ref T)/\T≠a/\TB s'.heap T .none/\(s.heap.objs.size<=a/\H' a=none)/\(s.heap.objs.size<=T/\H' T=none)/\E (.ref C) d H'
def HC {X:Cx}{E:XK}(t:Throws X E):Passes (bU X.prog X.w) X E:=by
 rintro pins σ H s e s' I ⟨a,C,T,d,H',rfl,os,bare,un,hok,x,ne,tb,⟨a1,a2⟩,⟨t1,t2⟩,q⟩
 have I':Inv X pins σ H' s':=I.call' (ch:=[]) os un hok bare λb z=>absurd z (by simp)
 exact t pins σ H' s' a C d I' ⟨_,x,a0.new I a1 a2,.inr ⟨T,rfl,ne,tb,a0.new I t1 t2⟩⟩ q
def eU (a:Addr):Value->Ae
 |.ref T0=>[a,T0]
 |_=>[a]
def xb (a:Addr) (v:Value):a∈eU a v:=by cases v<;>simp [eU]
def xc (a T0:Addr):T0∈eU a (.ref T0):=by simp [eU]
section
variable {X:Cx} {pins:Ac} {σ:St} {H:Hp} {s:Shared} {a C:Addr} {d:Option Addr} {A:Around} {E:Aa} {Q:Unit->Shared->Prop}
def qX (I:Inv X pins σ H s) (cz:A.frames=some X.stack) (cF:X.stack=X.env::X.outer) (hf:X.env.frame=some X.env.locals) (F:oA X pins H s.heap a C d)
  (h:∀s' T,Inv X pins σ H s'->XO s'.heap a (.ref C) d (.ref T)->T≠a->TB s'.heap T (rawInt X.env.locals)->a0 X pins H a->a0 X pins H T->Q () s'):wpAny (model X.prog X.w) A (noteFrame (.ref a) X.env) Q E s:=by
 obtain ⟨head,x,oa,ht⟩:=F
 have hl:s.heap.FunFrames X.base (X.env::X.outer):=cF▸I.stack
 have xf:A.frames=some (X.env::X.outer):=cz.trans (congrArg some cF)
 have xg:cg (X.env::X.outer)=X.env.locals::X.fs:=by
  unfold cg
  rw [List.filterMap_cons,hf]
  rfl
 have fK:∀b∈X.env.locals::X.fs,H b=none:=λb hb=>I.stkFree b (by rw [cF,xg];exact hb)
 have qY:∀b u,H b=some u->Value.ref b≠head:=λb u e z=>by
  rcases ht with rfl|⟨T0,rfl,_,_,r⟩
  ·cases z
  ·cases z
   rw [r.1] at e
   cases e
 refine HA xf hl hf x (ht.imp id λ⟨T0,e1,e2,e3,_⟩=>⟨T0,e1,e2,e3⟩) λh' T k1 k2 k3 k4 k5=>?_
 rw [xg] at k4 k5
 have oT:a0 X pins H T:=a0.new I k1 (I.hok.fresh k1)
 have neT:T≠a:=λz=>by
  obtain ⟨_,_,e,_⟩:=x
  have:=yb e
  rw [<-z] at this
  exact Nat.lt_irrefl _ (yY this k1)
 refine h { s with heap:=h' } T ?_ k2 neT k3 oa oT
 refine I.step (g':=s.gens) (t':=s.toks) (d':=s.drawn) (ch:=eU a head) (λb hb=>?_) (λb o n1 n2 n3 e n=>k4 b o (λz=>n3 ?_) (λz=>n3 ?_) (λz=>(yn.mp z).elim n1 n2) e)
  (λb o n1 n2 n3 e n=>k5 b o (yd _ n2) e) (λ_ _ _ _ n=>n) (λb o n3 e=>?_) (λ_ _ e=>e) (λ_ _ _ e=>e) (λb ps e=>⟨#[],by rw [e];simp⟩) (λm hm=>?_) (λb u e=>?_) I.bare
 ·have own:a0 X pins H b:=by
   rcases ht with rfl|⟨T0,rfl,_,_,r⟩
   ·have z:b=a:=by simpa [eU] using hb
    rw [z];exact oa
   ·have z:b=a\/b=T0:=by simpa [eU] using hb
    rcases z with z|z
    ·rw [z];exact oa
    ·rw [z];exact r
  exact ⟨.inr own.2.1,own.2.2.1,own.2.2.2.1,own.2.2.2.2⟩
 ·rw [z]
  exact xb a head
 ·rw [<-z]
  exact xc a b
 ·by_cases hb:b∈X.env.locals::X.fs
  ·obtain ⟨sl,z⟩:=k5 b o hb e
   exact ⟨_,z⟩
  ·exact ⟨o,k4 b o (λz=>n3 (by rw [z];exact xb a head)) (λz=>n3 (by rw [<-z];exact xc a b)) hb e⟩
 ·obtain ⟨o,es,ep,ho,r⟩:=hm
  obtain ⟨sl,z⟩:=k5 _ o zY ho
  exact ⟨_,es,ep,z,r⟩
 ·refine (I.hok b u e).stay (λc v hc q=>?_) (λ_ q=>q) λ_ _ q=>q
  have tr:∃u',H c=some u':=by
   rcases hc with z|z
   ·exact ⟨u,by rw [z];exact e⟩
   ·exact ⟨_,z⟩
  obtain ⟨u',eu⟩:=tr
  exact k4 c v (λz=>by rw [z,oa.1] at eu;cases eu) (qY c u' eu) (λz=>by rw [fK c z] at eu;cases eu) q
def mq {T:Addr}{fl:Value}(I:Inv X pins σ H s) (x:XO s.heap a (.ref C) d (.ref T)) (ne:T≠a) (tb:TB s.heap T fl) (oa:a0 X pins H a) (oT:a0 X pins H T)
  (h:∀s',Inv X pins σ H s'->XO s'.heap a (.ref C) d (.ref T)->TB s'.heap T .none->Q () s'):wpAny (model X.prog X.w) A (setFlight (.ref a) none) Q E s:=by
 refine HB x tb ne λh' k1 k2 k3 _=>h { s with heap:=h' } ?_ k1 k2
 exact I.turned (t':=s.toks) (it:=T) (λb o nb e=>k3 b o nb e) oT.1 oT.2.2.1 (.inr oT.2.1) oT.2.2.2.1 oT.2.2.2.2
end
section
variable {P:Program} {w:World} {K:PySem.W.Frag} {mg:Ab} {base:Heap}
def cW.okX {x qual:Str}{st:Stmt}{f:Addr}{fd:FuncData}{N ps:Ad}{k:Nat}{sp:Sp}(F:cW K x qual st f fd) (S:aH N ps (zI st)) (len:∀vs H Q E,sp vs H Q E->vs.length=ps.length)
  (dw:∀(aQ:Value) (A:Around) (outer:List Env) (s:Shared) (H:Hp) (vs:List V) (Q:VK) (E:XK),aY k (A.deeper (envOfC qual (zI st) s.heap.objs.size f aQ))->sp vs H Q E ->
   ∃t,b6 (cG (bU P w) P w K mg base N qual (zI st) f aQ A outer s H E) (jd st) t/\t { nx:=λ_ H'=>Q .non H',rt:=Q } (start N vs) H):bf P w K mg base (bU P w) (k+1) f fd ps sp:=by
 obtain ⟨oc,od,kV,doc,pm,an,aQ,ct,dI,rfl,lk,dU⟩:=F.ex
 exact Gg lk dU S len λA outer s H vs Q E hr eL=>dw aQ A outer s H vs Q E hr eL
end
end L2
namespace L2
open PySem PySem.Spec PyProof.Rows PySem.W PySem.Builtin PySem.Builtin.ObjectAttr
def gG:List Value->Bool
 |[.type a,.type b,.type c,.type d]=>a == "ValueError" && b == "Exception" && c == "BaseException" && d == "object"
 |.ref _::r=>gG r
 |_=>false
def oB (K:Frag) (C:Addr):Bool:=(clsIn K C).any λcd=>gG cd.mro
structure HD (K:PySem.W.Frag) (C:Addr) (f:Str):Prop where
 sa:PySem.W.findIn K (.ref C) "__setattr__" = some (some (.builtin "object.__setattr__"))
 line:oB K C=true
 no:PySem.W.takerIn K C f=some none
 hd:PySem.W.hasDictIn K C=true
abbrev cQ:Af:=[.type "ValueError", .type "Exception", .type "BaseException", .type "object"]
structure ExOf (K:Frag) (C:Addr):Prop where
 ob:∃nm q N bs bm bM sn sub ab col dd k0 k1 k2 k3 k5,K.lookup C=some (excClassObj nm q C N bs bm bM sn sub ab col dd k0 k1 k2 k3 k5 "ValueError.__new__")/\tailIn K cQ bm=true/\nsOkIn K N=true
 kp:keepIn K (.ref C)=true
structure O4 (K:Frag) (C f:Addr):Prop where
 ob:∃nm q N bs bm bM sn sub ab col dd k0 k1 k2 k3 k5,K.lookup C=some (excClassObj nm q C N bs bm bM sn sub ab col dd k0 k1 k2 k3 k5 "ValueError.__new__")/\tailIn K cQ bm=true/\nsOkIn K N=true/\nsIn K N "__init__" = some (some (.ref f))
 fn:isFn K (.ref f)=true
 kp:keepIn K (.ref C)=true
def del (H:Hp) (a:Addr):Hp:=λb=>if b=a then none else H b
section
variable {M:Model} {A:Around} {E:Aa} {env:Env} {s:Shared}
def HE {K:Frag}{x:Sem Value}{Q:Flow->Shared->Prop}(hh:A.handled=none)
  (h:wpAny M A x (λv ag=>∃e C t d,v=.ref e/\K.In ag.heap/\ExOf K C/\ag.heap.get? e=some { cls:=.ref C,dict:=d,data:=.fields #[.ref t,.none,.none,.none,.bool false,.none] }/\E (.ref e) ag) E s):wpAny M A (raiseStmt env (some x) none) Q E s:=by
 unfold raiseStmt
 refine zy (yM h (λv ag aq=>?_) λ_ _ x=>x)
 obtain ⟨e,C,tt,dx,rfl,kin,⟨⟨nm,q,N,bs,bm,bM,sn,sub,ab,col,dd,k0,k1,k2,k3,k5,hC,ht,_⟩,_⟩,he,hE⟩:=aq
 have hC:=kin _ _ hC
 have br:bm.contains (.type "BaseException")=true:=(tail_of_in kin ht).hasType (by decide)
 have qZ:(Value.ref C::bm).contains (.type "BaseException")=true:=by rw [List.contains_cons,br,Bool.or_true]
 obtain ⟨hp,g,d,tk,os⟩:=ag
 repeat (first|with_reducible refine wpAny_loadPart_at he ?_|with_reducible refine wpAny_loadPart_at hC ?_|(with_reducible refine wpAny_isSubtype_exc hC ?_;rw [qZ])|wp_step)
 exact wpAny_raiseNew_none hh hE
end
def XP (X:Cx) (pins:Ac) (σ:St) (E:XK) (u:Value) (s':Shared):Prop:=∃(a C:Addr) (d:Option Addr) (H':Hp),u=.ref a/\Inv X pins σ H' s'/\oA X pins H' s'.heap a C d/\E (.ref C) d H'
abbrev TX:=St->Hp->VK->XK->Prop
def PX (X:Cx) (e:Expr) (t:TX):Prop :=
 ∀(pins:Ac) (s:Shared) (σ:St) (H:Hp) (Q:VK) (E:XK),Inv X pins σ H s->t σ H Q E->wpAny (model X.prog X.w) X.A (eval e X.env) (EP X pins σ Q) (XP X pins σ E) s
def HF (sp:Sp) (b9:List V) (t:TA):TX:=fun σ H Q E=>t σ H λvs H1=>sp (vs++b9) H1 Q E
section
variable {X:Cx} {k:Nat} {f C:Addr} {fd:FuncData} {ps:Ad} {sp:Sp} {b9:List V} {ds:Af} {E:XK} {x:Str} {p pos:Pos} {e:Expr} {es:List Expr} {t:TA}
def HG {pins:Ac}{σ:St}{H:Hp}{s:Shared}{Q:VK}{us:Af}{vs:List V}(F:bf X.prog X.w X.K X.mg X.base (bU X.prog X.w) k f fd ps sp) (hr:aY k X.A) (hb:Binds X.K fd ps ds) (hd:Vals b9 ds)
  (I:Inv X pins σ H s) (r:Vals vs us) (h:sp (vs++b9) H Q E):wpAny (model X.prog X.w) X.A (call (.ref f) us) (EP X pins σ Q) (XP X pins σ E) s:=by
 have r2:Vals (vs++b9) (us++ds):=r.append hd
 have hl:(us++ds).length=ps.length:=by rw [<-r2.length];exact F.len _ _ _ _ h
 refine wpAny_call (codeAny_mono (F.run X.A X.stack s H ⟨us,[]⟩ (us++ds) (vs++b9) Q E hr I.env0 (hb s us I.kIn hl) r2 h) λr s' hq=>?_)
 cases r with
 |error e =>
  obtain ⟨a,C,T,d,H',rfl,os,bare,un,hok,x,ne,tb,⟨a1,a2⟩,⟨t1,t2⟩,q⟩:=hq
  have I':Inv X pins σ H' s':=I.call' (ch:=[]) os un hok bare λb z=>absurd z (by simp)
  exact ⟨a,C,d,H',rfl,I',⟨_,x,a0.new I a1 a2,.inr ⟨T,rfl,ne,tb,a0.new I t1 t2⟩⟩,q⟩
 |ok fl =>
  cases fl with
  |ret u=>exact I.after hq
  |next=>exact hq.elim
  |brk=>exact hq.elim
  |cont=>exact hq.elim
def HH (F:bf X.prog X.w X.K X.mg X.base (bU X.prog X.w) k f fd ps sp) (hr:aY k X.A) (hg:Gl X x) (hm:X.mg x=some (.ref f)) (hk:PySem.W.keepIn X.K (.ref f)=true) (hb:Binds X.K fd ps ds) (hd:Vals b9 ds)
  (ha:PA X.nox (e::es) t) (bC:(x==("__debug__" : Str))=false:=by decide) (he:starEach (e::es) X.env=(false,eval e X.env)::starEach es X.env:=by rfl) (bj:(backTo pos (starEach es X.env)).any (·.1)=false:=by rfl) :
  PX X (.Call (.Name x p) (e::es) [] pos) (HF sp b9 t):=by
 intro pins s σ H Q E I h
 refine wpAny_Call_Name_kw (gp I hg hm ?_ bC)
 refine PySem.W.callWith_K (h₀:=X.base) I.ok.mod.kin hk (yM (ha pos pins s σ H _ (I.wish _) h) (λus s1 ⟨vs,H1,I1,r,q⟩=>⟨I1.unwish.kIn,?_⟩) λ_ _ z=>z.elim) he bj
 exact HG F hr hb hd I1.unwish r q
end
def bS (C:Addr) (d:Option Addr) (a:Addr):HO:=.ext λ_ _ h=>∃T:Addr,XO h a (.ref C) d (.ref T)
abbrev Cx.caught (X:Cx) (a:Addr):Cx:={ X with A:=X.A.mark (some (.ref a)),calm:=false,xe:=λ_ _=>False }
section
variable {X:Cx} {pins:Ac} {σ:St} {H:Hp} {s:Shared} {a C:Addr} {d:Option Addr}
theorem Inv.caught (I:Inv X pins σ H s) (a:Addr):Inv (X.caught a) pins σ H s :=
 ⟨⟨I.ok.mod,I.ok.kind,I.ok.glob,I.ok.blt,I.ok.above,I.ok.inj,I.ok.has,I.ok.cab,(λz=>nomatch z),I.ok.frames,I.ok.stk,I.ok.exf,I.ok.bs,I.ok.bsz,I.ok.noex,I.ok.exfs,I.ok.funs,I.ok.frf⟩,I.os,I.bare,I.base,I.loc,I.cell,I.free,I.freeC,I.pin,I.hok,I.len⟩
def Inv.uncaught (J:X.Ok) (I:Inv (X.caught a) pins σ H s):Inv X pins σ H s:=⟨J,I.os,I.bare,I.base,I.loc,I.cell,I.free,I.freeC,I.pin,I.hok,I.len⟩
def Inv.track {o:HO}(I:Inv X pins σ H s) (ow:a0 X pins H a) (new:aU X.prog X.w (upd H a o) s.heap a o):Inv X pins σ (upd H a o) s:=by
 have ne:∀b u,H b=some u->b≠a:=λb u e z=>by rw [z,ow.1] at e;cases e
 have t:=I.step (h':=s.heap) (H':=upd H a o) (g':=s.gens) (t':=s.toks) (d':=s.drawn) (ch:=[a]) (λb hb=>?_) (λb u _ _ _ e _=>e) (λb u _ _ _ e _=>⟨u.slots,e⟩) (λb u nb e n=>?_) (λb u _ e=>⟨u,e⟩) (λb xs e=>?_) (λb u v e=>?_) (λb ps e=>?_) (λm hm=>hm) (λb u e=>?_) I.bare
 ·exact t
 ·have z:b=a:=by simpa using hb
  rw [z]
  exact ⟨.inr ow.2.1,ow.2.2.1,ow.2.2.2.1,ow.2.2.2.2⟩
 ·rw [zR (λz=>nb (by simp [z]))];exact n
 ·rw [zR (ne b _ e)];exact e
 ·rw [zR (ne b _ e)];exact e
 ·exact ⟨#[],by rw [zR (ne b _ e),e];simp⟩
 ·by_cases z:b=a
  ·rw [z] at e ⊢
   rw [yD] at e
   cases e
   exact new
  ·rw [zR z] at e
   exact (I.hok b u e).stay (λ_ _ _ q=>q) (λc q=>by rw [zR (ne c _ q)];exact q) λc xs q=>by rw [zR (ne c _ q)];exact q
def Inv.catch {T:Addr}(I:Inv X pins σ H s) (ow:a0 X pins H a) (x:XO s.heap a (.ref C) d (.ref T)):Inv X pins σ (upd H a (bS C d a)) s :=
 Inv.track I ow ⟨⟨T,x⟩,(let ⟨oe,_,e,_⟩:=x;⟨oe,e⟩),λh1 h2 p k=>let ⟨T,z⟩:=p;⟨T,z.keeps λo q=>k o q⟩⟩
def oE {M:Model}{A:Around}{E:Aa}{j:Nat}{n:Str}{pos:Pos}{Q:Unit->Shared->Prop}(I:Inv X pins σ H s) (hN:X.N.Nodup) (hj:X.N[j]?=some n) (hk:X.env.scope.names.lookup n=some .local)
  (h:∀s',Inv X pins (σ.set j none) H s'->Q () s'):wpAny M A (do bindName X.env n .none;unbindBehindTheSuite X.env n pos) Q E s:=by
 obtain ⟨m,hn,hl⟩:=id I.loc
 have dG:(X.env.scope.kind == .class||(X.env.scope.kind == .module&&X.env.locals != X.env.globals))=false:=by rw [I.ok.kind];rfl
 have ay:j<σ.length:=by rw [I.len];exact (yN.mp hj).1
 have cne:=I.cne
 obtain ⟨oL,_,_,fj,_⟩:=id hn
 refine wpAny_nameGoes_keeps hk hn dG λh' v cE hs=>?_
 refine h _ ⟨I.ok,I.os,I.bare,⟨λb o e n hb hx=>?_,λb o e n hb hx=>?_,I.base.free,λb o e hx=>?_,I.base.tups,I.base.frzs,I.base.tbls⟩,⟨_,cE,λi y v' e1 e2 e3=>?_⟩,λy c e=>?_,I.free,I.freeC,λp hp=>?_,λb ob e=>?_,by simpa using I.len⟩
 ·exact (hs.2 b (yB (yY (yb e) I.ok.above))).trans (I.base.keep b o e n hb hx)
 ·obtain ⟨sl,e1⟩:=I.base.slot b o e n hb hx
  exact ⟨sl,(hs.2 b (yB (yY (yb e) I.ok.above))).trans e1⟩
 ·obtain ⟨o',e1⟩:=I.base.there b o e hx
  exact ⟨o',(hs.2 b (yB (yY (yb e) I.ok.above))).trans e1⟩
 ·by_cases hi:i=j
  ·subst hi
   rw [jr ay] at e2
   cases e2
  ·rw [yI (y0 hi)] at e2
   obtain ⟨u',r',q⟩:=hl i y v' e1 e2 e3
   refine ⟨u',r',?_⟩
   rcases q with ⟨k,e⟩|⟨k,c,e,z⟩
   ·refine .inl ⟨k,?_⟩
    have:y≠n:=λe=>hi (qo hN e1 (e▸hj))
    simp [this,e]
   ·exact .inr ⟨k,c,e,z.sameBut hs (cne y c e)⟩
 ·obtain ⟨w',z⟩:=I.cell y c e
  exact ⟨w',z.sameBut hs (cne y c e)⟩
 ·obtain ⟨e,n,ne,nf,d⟩:=I.pin p hp
  exact ⟨(hs.2 p.1 ne).trans e,n,ne,nf,d⟩
 ·refine (I.hok b ob e).stay (λc w' hc q=>(hs.2 c ?_).trans q) (λ_ q=>q) λ_ _ q=>q
  rintro rfl
  rcases hc with rfl|hc
  ·rw [I.free] at e;cases e
  ·rw [I.free] at hc;cases hc
end
section
variable {X:Cx} {pins:Ac} {σ:St} {H:Hp} {s:Shared} {a C d:Addr} {fs:List (Str×V)}
def xh (I:Inv X pins σ H s) (ha:H a=some (bS C (some d) a)) (hd:H d=some (.xd fs)):∃ox od,InstAt s.heap a ox C (some od)/\∀n,∃o,lookIn n od=some o/\bL (fs.lookup n) o:=by
 obtain ⟨T,oe,vs,e,hc,gF,mv,_⟩:=(show aU X.prog X.w H s.heap a (bS C (some d) a) from I.hok a _ ha).1
 obtain ⟨mA,hn,r⟩:=(show aU X.prog X.w H s.heap d (.xd fs) from I.hok d _ hd)
 obtain ⟨od,ho,hl⟩:=uZ hn
 refine ⟨oe,od,⟨e,hc,by unfold notCls;rw [mv],by rw [gF];exact ho⟩,λn=>⟨mA n,hl n,r n⟩⟩
end
section
variable {prog:Program} {w:World} {A:Around} {E:Aa} {h:Heap} {g:Array GenState} {d:Drawn} {t:Nat} {os:OsState}
variable {nm q:Str} {C N:Addr} {bs bm iD:Af} {bM:Bool} {sn:Ad} {sub:Af} {ab:Bool} {col:Option Bool} {dd:Option Addr} {k0 k1 k2 k3 k5:Option Value} {B newId kD:String}
def HI (F:ExcBaseFacts B newId kD iD) (T:OwnTail h iD bm) {mN:Ab}{rest:Af}{Q:Aa}
  (hC:h.get? C=some (excClassObj nm q C N bs bm bM sn sub ab col dd k0 k1 k2 k3 k5 newId)) (hn:h.Ns N mN) (kY:mN "__init__" = none) (q0:rest.length<=sizeLine)
  (hq:∀h',(∀b o,h.get? b=some o->h'.get? b=some o)->(∃t,h'.get? (h.objs.size+1)=some { cls:=.ref C,data:=.fields #[.ref t,.none,.none,.none,.bool false,.none] })->Q (.ref (h.objs.size+1)) ⟨h',g,d,t,os⟩) :
  wpAny (model prog w) A (call (.ref C) rest) Q E ⟨h,g,d,t,os⟩:=by
 have u1:=tc_lookup
 have u2:=tc_bind (.ref C)
 have hT:(⟨h,g,d,t,os⟩:Shared).TypeIs (.ref C) "type" := ⟨_,hC,rfl⟩
 refine wpAny_call (codeAny_of_tree ?_)
 show wpAny _ _ (callAny (.ref C) _) _ _ _
 repeat (any_goals (first|assumption|with_reducible refine wpAny_loadPart_at hC ?_|wp_step))
 refine ⟨rfl,codeAny_call_builtin_at (Code.quiet_builtin _ (by decide +kernel)) entry_typeCall (wpAny_check_type_call_sub hC ?_)⟩
 repeat (first|with_reducible refine wpAny_loadPart_at hC ?_|with_reducible refine wpAny_madeBy_exc hC ?_|wp_step)
 refine codeAny_call_builtin_code (Code.quiet_builtin _ F.quiet) (wpAny_check_new_subT F T hC (codeAny_exc_new_subT F T hC ?_ q0))
 change wpAny (model prog w) _ _ _ _ ⟨(h.push { cls:=.type "tuple", data:=.seq rest.toArray }).push { cls:=.ref C,data:=.fields #[.ref h.objs.size,.none,.none,.none,.bool false,.none] },g,d,t,os⟩
 have gx:((h.push { cls:=.type "tuple", data:=.seq rest.toArray }).push { cls:=.ref C,data:=.fields #[.ref h.objs.size,.none,.none,.none,.bool false,.none] }).get? (h.objs.size+1)=some { cls:=.ref C,data:=.fields #[.ref h.objs.size,.none,.none,.none,.bool false,.none] }:=by heap_get
 have oy:((h.push { cls:=.type "tuple", data:=.seq rest.toArray }).push { cls:=.ref C,data:=.fields #[.ref h.objs.size,.none,.none,.none,.bool false,.none] }).objs.size=h.objs.size+2:=by rw [Heap.size_push,Heap.size_push]
 have kp:∀b o,h.get? b=some o->((h.push { cls:=.type "tuple", data:=.seq rest.toArray }).push { cls:=.ref C,data:=.fields #[.ref h.objs.size,.none,.none,.none,.bool false,.none] }).get? b=some o:=λb o e=>z8 _ (z8 _ e)
 generalize (h.push { cls:=.type "tuple", data:=.seq rest.toArray }).push { cls:=.ref C,data:=.fields #[.ref h.objs.size,.none,.none,.none,.bool false,.none] }=h2 at gx kp oy ⊢
 have C2:=kp _ _ hC
 have T2:=T.keeps kp
 have n2:=hn.keeps kp
 have cC:(Value.ref C::bm).contains (.ref C)=true:=by simp
 unfold isInstance
 repeat (first|with_reducible refine wpAny_loadPart_at gx ?_|(with_reducible refine wpAny_isSubtype_exc C2 ?_;rw [cC])|wp_step)
 show wpAny _ _ (typeLookup (.ref C) _) _ _ _
 refine wpAny_typeLookup_tail C2 n2 T2 F.mroIs F.init.lookup ?_
 rw [kY]
 refine fI (zy (wpAny_of_eq (F.init.bind _) ?_))
 refine zy (wpAny_call (codeAny_call_builtin F.init.plain F.initEntry (wpAny_check_init_subT F T2 C2 gx rfl ?_)))
 wp_walk
 refine hq _ (λb o hb=>?_) ⟨h2.objs.size,?_⟩
 ·rw [wT _ _ (Nat.ne_of_gt (Nat.lt_succ_of_lt (yb hb)))]
  exact z8 _ (kp _ _ hb)
 ·rw [Heap.get?_update_self _ (z8 _ gx) rfl]
  rfl
end
def bx (C:Addr) (Er:XK):TS:=λ_ _ H=>Er (.ref C) none H
def HJ {X:Cx} {C:Addr} {x:Str} {np aS pos:Pos} {Er:XK} (q:excIn X.K C cQ "ValueError.__new__" = true) (kp:keepIn X.K (.ref C)=true) (hg:Gl X x) (hm:X.mg x=some (.ref C)) (ht:Throws X Er) (hc:X.calm=true) (bC:(x==("__debug__" : Str))=false:=by decide) :
  PS X (.Raise (some (.Call (.Name x np) [] [] aS)) none pos) (bx C Er):=by
 intro pins s σ H D I h
 unfold excIn at q
 split at q
 ·rename_i dd cd sl ho
  split at q
  ·rename_i C' bm k0 k1 k2 k3 n k5 da hs
   simp only [yC,beq_iff_eq,Bool.not_eq_true'] at q
   obtain ⟨⟨⟨⟨⟨rfl,rfl⟩,gH⟩,oF⟩,hok⟩,kY⟩:=q
   obtain ⟨nm,bs,mro,ns,qn,hd,sn,sub,ab,col,del⟩:=cd
   dsimp only at da gH hok kY
   subst da gH
   have mw:sl=#[k0,k1,k2,k3,some (.builtin "ValueError.__new__"),k5]:=Array.toList_inj.mp hs
   subst mw
   have T:=tail_of_in I.kIn oF
   have ex:ExOf X.K C':=⟨⟨nm,qn,ns,bs,bm,hd,sn,sub,ab,col,dd,k0,k1,k2,k3,k5,ho,oF,hok⟩,kp⟩
   rw [arm_exec_Raise]
   refine zy (wpAny_standAt ?_)
   refine HE (K:=X.K) (I.ok.hd hc) ?_
   refine zy (wpAny_Call_Name_kw (gp I hg hm ?_ bC))
   refine PySem.W.callWith_K0 I.kIn kp ?_
   refine HI (h:=s.heap) (g:=s.gens) (d:=s.drawn) (t:=s.toks) (os:=s.os) PySem.F.excBase_ValueError T (I.kIn _ _ ho) (mN:=s.heap.nsMap ns) (.of_isNs (isNs_of_in I.kIn hok)) (nsMap_none_of_in I.kIn hok kY) (jP _) λh' kk ⟨t,hx⟩=>?_
   refine zy (wpAny_standAt (zW ?_))
   have I1:Inv X pins σ H { s with heap:=h',toks:=s.toks }:=I.kept kk
   have hz:s.heap.objs.size<=s.heap.objs.size+1:=Nat.le_succ _
   exact ⟨_,C',t,none,rfl,I1.kIn,ex,hx,ht pins σ H _ _ C' none I1 ⟨.none,⟨_,_,hx,rfl,rfl,rfl,rfl,rfl⟩,a0.new I hz (I.hok.fresh hz),.inl rfl⟩ h⟩
  ·cases q
 ·cases q
end L2
namespace L2
open PySem PySem.Spec PyProof.Rows PySem.W
def q8 (X:Cx) (pins:Ac) (H:Hp) (h:Heap) (a C:Addr) (d:Option Addr):Prop :=
 ∃T,XO h a (.ref C) d (.ref T)/\T≠a/\TB h T (rawInt X.env.locals)/\a0 X pins H a/\a0 X pins H T
def q9 (X:Cx) (pins:Ac) (H:Hp) (h:Heap) (a C:Addr) (d:Option Addr):Prop:=oA X pins H h a C d\/q8 X pins H h a C d
def wj (X:Cx) (E:XK):Prop:=∀(pins:Ac) (σ:St) (H:Hp) (s:Shared) (a C:Addr) (d:Option Addr),Inv X pins σ H s->q9 X pins H s.heap a C d->E (.ref C) d H->X.xe (.ref a) s
def wj.one {X:Cx}{E:XK}(t:wj X E):Throws X E:=λpins σ H s a C d I F q=>t pins σ H s a C d I (.inl F) q
def XA (X:Cx) (Er:XK) (e:Value) (s:Shared):Prop:=∃(pins:Ac) (σ:St) (H:Hp) (a C:Addr) (d:Option Addr),e=.ref a/\Inv X pins σ H s/\q9 X pins H s.heap a C d/\Er (.ref C) d H
section
variable {X:Cx} {pins:Ac} {σ:St} {H:Hp} {s:Shared} {a C:Addr} {d:Option Addr} {A:Around} {E:Aa} {Q:Unit->Shared->Prop} {Er:XK}
def zE:wj (X.wish (XA X Er)) Er:=λpins σ H s a C d I F q=>⟨pins,σ,H,a,C,d,rfl,I.unwish,F,q⟩
def xi (I:Inv X pins σ H s) (cz:A.frames=some X.stack) (cF:X.stack=X.env::X.outer) (hf:X.env.frame=some X.env.locals) (F:q9 X pins H s.heap a C d)
  (h:∀s' T,Inv X pins σ H s'->XO s'.heap a (.ref C) d (.ref T)->T≠a->TB s'.heap T (rawInt X.env.locals)->a0 X pins H a->a0 X pins H T->Q () s'):wpAny (model X.prog X.w) A (noteFrame (.ref a) X.env) Q E s:=by
 rcases F with F|⟨T,x,ne,tb,oa,oT⟩
 ·exact qX I cz cF hf F h
 ·obtain ⟨oe,vs,e,_,_,hd,_,h1⟩:=id x
  obtain ⟨ot,ts,et,mv,h3⟩:=id tb
  unfold noteFrame
  simp only [hf]
  refine zy (wS e hd h1 ?_)
  rw [zj (show (Value.ref T != Value.none)=true by simp)]
  refine zy (wS et mv h3 ?_)
  rw [zj (by simp)]
  exact zW (h s T I x ne tb oa oT)
def HK {T f:Addr}{fl:Value}(x:XO s.heap a (.ref C) d (.ref T)) (t:TB s.heap T fl) (ne:T≠a)
  (h:∀h',XO h' a (.ref C) d (.ref T)->TB h' T (rawInt f)->(∀b o,b≠T->s.heap.get? b=some o->h'.get? b=some o)->Q () { s with heap:=h' }) {M:Model}:wpAny M A (setFlight (.ref a) (some f)) Q E s:=by
 obtain ⟨oe,vs,e,_,_,hd,_,h1⟩:=id x
 obtain ⟨oT,ts,eT,hdT,h3⟩:=id t
 unfold setFlight
 refine zy (wS e hd h1 ?_)
 rw [zj (show (Value.ref T != Value.none)=true by simp)]
 refine wpAny_setField eT hdT (Array.getElem?_eq_some_iff.mp h3).1 ?_
 exact h _ (x.keeps λo q=>(wT _ _ ne).trans q) (t.set3 _) λb o nb q=>(wT _ _ (y0 nb)).trans q
def xj (cF:X.stack=X.env::X.outer) (hf:X.env.frame=some X.env.locals):PassesOwn (model X.prog X.w) X.A X.env (XA X Er):=by
 rintro e s ⟨pins,σ,H,a,C,d,rfl,I,F,q⟩
 unfold notedBy
 refine xi I I.ok.frames cF hf F λs2 T I2 x2 ne my oa oT=>?_
 unfold cameBackBy
 obtain ⟨oe,vs,e2,_,_,hd,_,h1⟩:=id x2
 refine zy (wS e2 hd h1 ?_)
 rw [zx (show ¬((Value.ref T==Value.none)=true) by simp),hf]
 refine HK x2 my ne λh' x3 iE k3=>⟨pins,σ,H,a,C,d,rfl,?_,.inr ⟨T,x3,ne,iE,oa,oT⟩,q⟩
 exact I2.turned (t':=s2.toks) (it:=T) (λb o nb e=>k3 b o nb e) oT.1 oT.2.2.1 (.inr oT.2.1) oT.2.2.2.1 oT.2.2.2.2
def b6.throwing {st:List Stmt}{t:TS}(h:b6 (X.wish (XA X Er)) st t) (ht:wj X Er):b6 X st t:=λpins s σ H D I hw =>
 yM (h pins s σ H D (I.wish _) hw) (λ_ _ q=>q.unwish) λe s' ⟨pins,σ,H,a,C,d,ee,I1,F,q⟩=>ee▸ht pins σ H s' a C d I1 F q
def oG (t:wj X Er):Passes (bU X.prog X.w) X Er:=HC t.one
end
def HL {P:Program}{w:World}{K:PySem.W.Frag}{mg:Ab}{base:Heap}{N:Ad}{qual:Str}{scope:Scope}{f:Addr}{cd:Value}{A:Around}{outer:List Env}{s:Shared}{H:Hp}{E:XK} :
  wj (cG (bU P w) P w K mg base N qual scope f cd A outer s H E) E:=by
 intro pins σ H1 s1 a C d I F q
 show wpAny (model P w) (A.deeper (envOfC qual scope s.heap.objs.size f cd)) (leaving (envOfC qual scope s.heap.objs.size f cd) (.ref a)) _ _ s1
 unfold leaving
 refine zy (xi I I.ok.frames rfl rfl F λs2 T I2 x ne tb oa oT=>mq I2 x ne tb oa oT λs3 I3 x3 iE=>?_)
 exact ⟨a,C,T,d,H1,rfl,I3.os,I3.bare,I3.base,I3.hok,x3,ne,iE,⟨oa.2.1,oa.1⟩,⟨oT.2.1,oT.1⟩,q⟩
section
variable {P:Program} {w:World} {K:PySem.W.Frag} {mg:Ab} {base:Heap}
def cW.okT {x qual:Str}{st:Stmt}{f:Addr}{fd:FuncData}{N ps:Ad}{k:Nat}{sp:Sp}(F:cW K x qual st f fd) (S:aH N ps (zI st)) (len:∀vs H Q E,sp vs H Q E->vs.length=ps.length)
  (dw:∀(aQ:Value) (A:Around) (outer:List Env) (s:Shared) (H:Hp) (vs:List V) (Q:VK) (E:XK),aY k (A.deeper (envOfC qual (zI st) s.heap.objs.size f aQ))->sp vs H Q E ->
   ∃t,b6 ((cG (bU P w) P w K mg base N qual (zI st) f aQ A outer s H E).wish (XA (cG (bU P w) P w K mg base N qual (zI st) f aQ A outer s H E) E)) (jd st) t/\t { nx:=λ_ H'=>Q .non H',rt:=Q } (start N vs) H):bf P w K mg base (bU P w) (k+1) f fd ps sp :=
 cW.okX F S len λaQ A outer s H vs Q E hr hs=>let ⟨t,h1,h2⟩:=dw aQ A outer s H vs Q E hr hs;⟨t,b6.throwing h1 HL,h2⟩
end
end L2
namespace L2
open PySem PySem.Spec PyProof.Rows PySem.W PySem.Builtin PySem.Builtin.ObjectAttr
section
variable {prog:Program} {w:World} {A:Around} {E:Aa} {K:Frag} {x C:Addr} {s:Shared} {ox:Obj} {od:Option Obj} {name:Str} {tk:Tok}
structure fH (K:Frag) (C:Addr):Prop where
 ga:findIn K (.ref C) "__getattribute__" = some (some (.builtin "BaseException.__getattribute__"))
 hk:findIn K (.ref C) "__getattr__" = some none
 hB:mroIn K C (.type "BaseException")=some true
def xk {fill expr:Bool}{Q:Aa}(X:K.In s.heap) (I:InstAt s.heap x ox C od) (G:fH K C)
  (h:wpAny (model prog w) A.in1 (Builtin.«object.__getattribute__» ⟨[.ref x,.str name tk],[]⟩) (λfin s'=>∃v,fin=.done (.ret v)/\handedIn v=true/\Q v s') (λ_ _=>False) s) :
  wpAny (model prog w) A (getAttrBy (.ref x) (.str name tk) fill expr) Q E s:=by
 have L0:=I.type (M:=model prog w)
 have L1:=looks_findIn (M:=model prog w) X G.ga
 have L2:=looks_findIn (M:=model prog w) X G.hk
 have HM:Looks (model prog w) s.heap (isInstance (.ref x) (.type "BaseException")) true:=I.type.andThen (looks_mroIn X G.hB)
 unfold getAttrBy
 refine fI (zy (L0.here (zy (L1.here ?_))))
 dsimp only
 rw [zx (show ¬((onTheHeap (Value.ref C)&&Value.builtin "BaseException.__getattribute__" == Value.builtin "object.__getattribute__")=true) by
  rw [show (Value.builtin "BaseException.__getattribute__" == Value.builtin "object.__getattribute__")=false by decide +kernel,Bool.and_false];exact Bool.false_ne_true)]
 unfold getAttrByItsOwn hookBefore
 rw [zj (show onTheHeap (Value.ref C)=true from rfl)]
 refine zy (L2.here (zy (wpAny_attempt (fI ?_))))
 unfold callGetattribute
 rw [zx (show ¬((expr&&onTheHeap (Value.builtin "BaseException.__getattribute__"))=true) by cases expr<;>exact Bool.false_ne_true)]
 unfold boundAndCalled
 refine zy (wpAny_of_eq (PySem.F.excAttr_ValueError.ga.bind (.ref x)) ?_)
 refine wpAny_call (codeAny_call_builtin PySem.F.excAttr_ValueError.ga.plain PySem.F.entry_bexc_ga (@check_slot (model prog w) _ _ s "BaseException.__getattribute__" "BaseException" "__getattribute__" (.ref x) [.str name tk] [] _ (by decide +kernel) (by decide +kernel) HM (PySem.F.args_bexc_ga (.ref x) (.str name tk)) ?_))
 refine yM h (λfin s' ⟨v,ef,hv,q⟩=>?_) λ_ _ z=>z.elim
 subst ef
 show wpAny _ _ (handedOut v) _ _ _
 rw [handedOut_of hv]
 exact zW q
def HN {v:Value}{Q:Fin->Shared->Prop}(X:K.In s.heap) (I:InstAt s.heap x ox C od) (hf:findObj K C od name=some (.value v)) (h:Q (.done (.ret v)) s) :
  wpAny (model prog w) A (Builtin.«object.__getattribute__» ⟨[.ref x,.str name tk],[]⟩) Q E s:=by
 have L0:=I.type (M:=model prog w)
 have L1:=looks_find (M:=model prog w) X I hf
 exact zy (zW (zy (zW (zy (L0.here (zy (L1.here (zW h))))))))
def HP {Q:Fin->Shared->Prop} (X:K.In s.heap) (I:InstAt s.heap x ox C od) (hf:findObj K C od "__class__" = some (.bind (.builtin "getset_descriptor.__get__") (.builtin "object.__class__"))) (hm:mroIn K C (.type "object")=some true)
  (h:Q (.done (.ret (.ref C))) s):wpAny (model prog w) A (Builtin.«object.__getattribute__» ⟨[.ref x,.str "__class__" tk],[]⟩) Q E s:=by
 have L0:=I.type (M:=model prog w)
 have L1:=looks_find (M:=model prog w) X I hf
 refine zy (zW (zy (zW (zy (L0.here (zy (L1.here ?_)))))))
 show wpAny _ _ (holding [.builtin "object.__class__"] (call (.builtin "getset_descriptor.__get__") [.builtin "object.__class__", .ref x,.ref C]) >>= ret) _ _ _
 exact zy (fI (wpAny_call (class_get (ox:=ox) (od:=od) X I hm (zW h))))
end
def xl {K:Frag} {x D:Addr} {ox:Obj} {od:Option Obj} (G:fH K D) (HQ:(clsIn K D).isSome=true) (hf:findObj K D od "__class__" = some (.bind (.builtin "getset_descriptor.__get__") (.builtin "object.__class__"))) (hm:mroIn K D (.type "object")=some true) :
  KitX K (.ref x) (.ref D) (λh=>InstAt h x ox D od):=by
 obtain ⟨cd,hc⟩:=Option.isSome_iff_exists.mp HQ
 unfold clsIn at hc
 split at hc
 ·rename_i c' d' Pb uO ho
  refine ⟨λ_ _ _ I=>I.type,λM h X _=>?_,λh tp dd its n sl X HR=>?_,λ{prog w A E Q s} X I k=>?_⟩
  ·intro A' Q' E' s' k q
   unfold isType loadHead
   exact zy (wpAny_loadPart (k _ _ (X _ _ ho)) (zW q))
  ·refine Bool.eq_false_iff.mpr λq=>?_
   obtain rfl:D=tp:=Value.ref.inj (beq_iff_eq.mp q)
   have z:=(X _ _ ho).symm.trans HR
   cases z
  ·unfold getAttr? getAttrBy?
   refine zy (wpAny_mkText (zy (wpAny_attempt ?_)))
   exact xk (s:={ s with toks:=s.toks+1 }) X I G (HP (s:={ s with toks:=s.toks+1 }) X I hf hm ⟨_,rfl,rfl,zW k⟩)
 ·cases hc
structure d7 (K:Frag) (C:Addr):Prop where
 g:fH K C
 hd:hasDictIn K C=true
 ha:findIn K (.ref C) "__class__" = some (some (.builtin "object.__class__"))
 hn:specialIn K (.builtin "object.__class__") "__get__" = some (some (.builtin "getset_descriptor.__get__"))
 tk:takesIn K (.builtin "object.__class__")=some true
 hm:mroIn K C (.type "object")=some true
section
variable {X:Cx} {pins:Ac} {σ:St} {H:Hp} {s:Shared} {a C d:Addr} {fs:List (Str×V)} {A:Around} {E:Aa}
def HS {b:Bool}{f:Str}{v:V}{Q:Aa}(I:Inv X pins σ H s) (ha:H a=some (bS C (some d) a)) (hd:H d=some (.xd fs)) (g:fH X.K C) (hh:hasDictIn X.K C=true) (no:findIn X.K (.ref C) f=some none) (l:fs.lookup f=some v)
  (h:∀u s',Inv X pins σ H s'->RelV v u->Q u s'):wpAny (model X.prog X.w) A (getAttr (.ref a) f b) Q E s:=by
 obtain ⟨ox,od,J,hl⟩:=xh I ha hd
 obtain ⟨o,ho,r⟩:=hl f
 rw [l] at r
 obtain ⟨u,rfl,ru⟩:=bL.some_of (v:=v) (o:=o) r
 unfold getAttr
 refine zy (wpAny_mkText ?_)
 exact xk (s:={ s with toks:=s.toks+1 }) I.kIn J g (HN (s:={ s with toks:=s.toks+1 }) I.kIn J (findObj_own hh no rfl ho) ⟨u,rfl,va ru,h u _ (I.tok _) ru⟩)
def HU {c:Value}{b:Bool}{Q:Aa}(I:Inv X pins σ H s) (ha:H a=some (bS C (some d) a)) (hd:H d=some (.xd fs)) (k:d7 X.K C) (e:kitOne X.K (.ref C) c=some b) (h:∀tk,Q (.bool b) { s with toks:=tk }) :
  wpAny (model X.prog X.w) A (call (.builtin "isinstance") [.ref a,c]) Q E s:=by
 obtain ⟨ox,od,J,_⟩:=xh I ha hd
 have cl:(clsIn X.K C).isSome=true:=by obtain ⟨cd,hc,_⟩:=any_some k.hd;rw [hc];rfl
 exact kia_one (xl k.g cl (findObj_data cl k.ha k.hn k.tk) k.hm) I.kIn J e (λz=>nomatch z) h
end
end L2
namespace L2
open PySem PySem.Spec PyProof.Rows PySem.W
structure Pc (prog:Program) (w:World) (it src:Addr) (xs:Array Value) (St:Nat->Heap->Prop):Prop where
 at_:∀{k h h'},St k h->(∀o,h.get? it=some o->h'.get? it=some o)->(∀o,h.get? src=some o->h'.get? src=some o)->St k h'
 lt:∀{k h},St k h->it<h.objs.size
 item:∀{A:Around} {E:Aa} {s:Shared} {k:Nat} {x:Value} {Q:Aa},St k s.heap->xs[k]?=some x->(∀h',St (k+1) h'->Heap.SameBut it s.heap h'->Q x { s with heap:=h' }) ->
  wpAny (model prog w) A (Builtin.SmallTypes.nextOf (.ref it)) Q E s
 stop:∀{A:Around} {E:Aa} {s:Shared} {k:Nat} {Q:Aa},A.handled=none->St k s.heap->xs[k]?=none ->
  (∀h' e,Heap.ExtBut it s.heap h'->(∃o,h'.get? e=some o/\o.cls=.type "StopIteration")->E (.ref e) { s with heap:=h' })->wpAny (model prog w) A (Builtin.SmallTypes.nextOf (.ref it)) Q E s
def xm (it t:Addr) (xs:Array Value) (k:Nat) (h:Heap):Prop:=IsTupIter h it t k/\IsTup h t xs
structure O5 (z TI TO i1 i2:Addr):Prop where
 TIz:TI≠z
 TOz:TO≠z
 i1z:i1≠z
 i2z:i2≠z
 TITO:TI≠TO
 TIi1:TI≠i1
 TIi2:TI≠i2
 TOi1:TO≠i1
 TOi2:TO≠i2
 i12:i1≠i2
structure KD (X:Cx) (a:Addr):Prop where
 ob:∃es n,X.K.lookup a=some ⟨.type "dict", none,.dict es n,#[]⟩/\KeysLit X.w.params es.toList
 no:(a==sysModules)=false
end L2
namespace Mi
open PySem L2 PySem.W
inductive PV where
 |non|bl (b:Bool)|int (i:Int)|str (x:Str)|ty (n:String)
 |tup (xs:List PV)|frl (xs:List PV)|ref (n:Nat)|fn (x:Str)|kd (ks:Ad) (xs:List PV)|exo (c:Str) (ks:Ad) (xs:List PV)
inductive SO where
 |lst (xs:List PV)|dic (ks:Ad) (xs:List PV)|ins (c:Str) (ks:Ad) (xs:List PV)|fdi (ks:Ad) (xs:List PV)|dit (ks:List (List Key)) (xs:List PV)
abbrev aj:=List SO
inductive Res (U:Type) where
 |ok (a:U) (st:aj)|err (c:Str) (ks:Ad) (xs:List PV) (st:aj)|stuck
abbrev Mo (U:Type):=aj->Res U
noncomputable def Res.bind {U β:Type}:Res U->(U->Mo β)->Res β
 |.ok a st,f=>f a st
 |.err c ks xs st,_=>.err c ks xs st
 |.stuck,_=>.stuck
abbrev za:=List (Option PV)
def HV (K:Frag) (a:Addr) (ks:Ad) (us:Af):Prop:=∀z,nsIn K a z=some ((ks.zip us).lookup z)
def fQ (K:Frag) (H:Hp) (a:Addr) (vs:List V):Prop :=
 (∃o,H a=some (.frz o (.lst vs)))\/∃(o:Obj) (its:Array Value) (n:Nat),K.lookup a=some o/\o.cls=.type "list" /\ o.dict=none/\o.data=.seq its n/\its.size<=sizeLine/\Vals vs its.toList
def fQ.sq {K:Frag}{H:Hp}{a:Addr}{vs:List V}(h:fQ K H a vs):a_ K H a vs:=by
 rcases h with ⟨o,h⟩|h
 ·exact .inl (.inr ⟨o,h⟩)
 ·exact .inr h
section
variable (K:Frag) (mg:Ab)
mutual
def R (ρ:Ae) (H:Hp):PV->V->Prop
 |.non,v=>v=.non
 |.bl b,v=>v=.bl b
 |.int i,v=>v=.int i
 |.str x,v=>v=.str x
 |.ty n,v=>v=.ty n
 |.tup xs,v=>∃a vs,v=.ref a/\bK K H a vs/\Rs ρ H xs vs
 |.frl xs,v=>∃a vs,v=.ref a/\fQ K H a vs/\Rs ρ H xs vs
 |.ref n,v=>∃a,v=.ref a/\ρ[n]?=some a
 |.fn x,v=>∃f,v=.ref f/\mg x=some (.ref f)
 |.kd ks xs,v=>∃a us vs,v=.ref a/\HV K a ks us/\Vals vs us/\Rs ρ H xs vs
 |.exo c ks xs,v=>∃a C,v=.ref a/\mg c=some (.ref C)/\((ks=[]/\H a=some (bS C none a))\/∃d vs,H a=some (bS C (some d) a)/\H d=some (.xd (ks.zip vs))/\Rs ρ H xs vs/\ks.length=vs.length)
def Rs (ρ:Ae) (H:Hp):List PV->List V->Prop
 |[],vs=>vs=[]
 |x::xs,vs=>∃v r,vs=v::r/\R ρ H x v/\Rs ρ H xs r
end
def dE (a:Addr) (its:List (List Key×Addr×Value)):HO:=.ext λP w h=>its.length<=sizeLine/\(a==sysModules)=false /\
 ∃o es ep,h.get? a=some o/\o.ExactDict/\o.data=.dict es ep/\es.toList=its.map (entryOfKey (tupleKind (aX P w)))/\(its.map (·.1)).Nodup
def eB (ρ:Ae) (H:Hp):SO->Addr->Prop
 |.lst xs,a=>∃vs,H a=some (.lst vs)/\Rs K mg ρ H xs vs
 |.dic ks xs,a=>∃vs,H a=some (.dK ((ks.map Sum.inr).zip vs))/\Rs K mg ρ H xs vs/\ks.length=vs.length
 |.ins c ks xs,a=>∃C dx vs,mg c=some (.ref C)/\H a=some (.ins C dx (ks.zip vs))/\Rs K mg ρ H xs vs/\ks.length=vs.length
 |.fdi ks xs,a=>∃o vs,H a=some (.frz o (.dK ((ks.map Sum.inr).zip vs)))/\Rs K mg ρ H xs vs/\ks.length=vs.length
 |.dit ks xs,a=>∃its vs,H a=some (dE a its)/\its.map (·.1)=ks/\(∀x,x∈its->bK K H x.2.1 (x.1.map kV))/\Vals vs (its.map (·.2.2))/\Rs K mg ρ H xs vs
structure aZ (ρ:Ae) (H:Hp) (st:aj):Prop where
 len:ρ.length=st.length
 nd:ρ.Nodup
 at_:∀(n:Nat) so,st[n]?=some so->∃a,ρ[n]?=some a/\eB K mg ρ H so a
def Still (φ:Program->World->Heap->Prop):Prop:=∀P w,∃h:Heap,φ P w h/\∀b o es ep,h.get? b=some o->o.data ≠ .dict es ep
open Classical in
def q_:HO->Bool
 |.tup _=>true
 |.frz _ _=>true
 |.xd _=>true
 |.ext φ=>decide (Still φ)
 |_=>false
structure Ext (ρ:Ae) (H:Hp) (af:Ae) (H':Hp):Prop where
 pre:∃δ,af=ρ++δ
 imm:∀a o,H a=some o->q_ o=true->H' a=some o
def xn {C:Addr}{d:Option Addr}{a:Addr}:q_ (bS C d a)=true:=by
 have st:Still λ_ _ h=>∃T:Addr,XO h a (.ref C) d (.ref T):=λP w=>by
  have g:∀b,(Heap.mk (Array.replicate (a+1) { cls:=.ref C,dict:=d,data:=.fields #[.none,.ref 0,.none,.none,.none,.none] }) {}).get? b=if b<a+1 then some { cls:=.ref C,dict:=d,data:=.fields #[.none,.ref 0,.none,.none,.none,.none] } else none:=by
   intro b
   unfold Heap.get?
   by_cases hb:b<a+1
   ·simp [Array.getElem?_replicate,hb]
   ·simp [Array.getElem?_replicate,hb]
  refine ⟨_,⟨0,_,_,(g a).trans (zj (wV a)),rfl,rfl,rfl,rfl,rfl⟩,λb o es ep e=>?_⟩
  rw [g b] at e
  split at e
  ·cases e;intro z;cases z
  ·cases e
 exact @decide_eq_true _ (Classical.propDecidable _) st
def XR (ρ:Ae) (H:Hp) (c:Str) (ks:Ad) (xs:List PV) (Cv:Value) (d:Option Addr):Prop :=
 ∃C,Cv=.ref C/\mg c=some (.ref C)/\((ks=[]/\d=none)\/∃dd vs,d=some dd/\H dd=some (.xd (ks.zip vs))/\Rs K mg ρ H xs vs/\ks.length=vs.length)
def Out {U:Type}(ρ:Ae) (H:Hp) (r:Res U) (good:List Addr->Hp->U->aj->Prop) (E:XK):Prop :=
 match r with
 |.ok x st=>∀af H',Ext ρ H af H'->aZ K mg af H' st->good af H' x st
 |.err c ks xs st=>∀af H' C d,Ext ρ H af H'->aZ K mg af H' st->XR K mg af H' c ks xs C d->E C d H'
 |.stuck=>False
structure a7 (ρ:Ae) (H:Hp) (env:za) (σ:St):Prop where
 len:env.length=σ.length
 at_:∀(i:Nat) x,env[i]?=some (some x)->∃v,σ[i]?=some (some v)/\R K mg ρ H x v
def gV (Q:VK):List Addr->Hp->PV->aj->Prop:=fun ρ H x _=>∀v,R K mg ρ H x v->Q v H
def HW (Q:List V->Hp->Prop):List Addr->Hp->List PV->aj->Prop:=fun ρ H x _=>∀v,Rs K mg ρ H x v->Q v H
def gB (Q:Bool->Hp->Prop):List Addr->Hp->Bool->aj->Prop:=λ_ H x _=>Q x H
inductive Fl where
 |nx (env:za)|rt (x:PV)|bk (env:za)|ct (env:za)
abbrev Ah:=za->Mo (List PV)
abbrev Ai:=za->Mo PV
abbrev Aj:=za->Mo Fl
abbrev Ak:=za->Mo Bool
abbrev Al:=List PV->Mo PV
abbrev Am:=PV->PV->Mo PV
abbrev An:=List PV
def gS (D:Ends):List Addr->Hp->Fl->aj->Prop:=fun ρ H x _ =>
 match x with
 |.nx env=>∀σ,a7 K mg ρ H env σ->D.nx σ H
 |.rt x=>∀v,R K mg ρ H x v->D.rt v H
 |.bk env=>∀σ,a7 K mg ρ H env σ->D.bk σ H
 |.ct env=>∀σ,a7 K mg ρ H env σ->D.ct σ H
end
section
variable {K:Frag} {mg:Ab} {ρ aa ai:Ae} {H H1 H2:Hp}
def Ext.refl:Ext ρ H ρ H:=⟨⟨[],by simp⟩,λ_ _ h _=>h⟩
def Ext.trans (a:Ext ρ H aa H1) (b:Ext aa H1 ai H2):Ext ρ H ai H2:=by
 obtain ⟨⟨d,hd⟩,i⟩:=a
 obtain ⟨⟨d',aW⟩,i'⟩:=b
 exact ⟨⟨d++d',by rw [aW,hd,kK]⟩,λa o h m=>i' a o (i a o h m) m⟩
def Ext.get (a:Ext ρ H aa H1) {n:Nat}{p:Addr}(h:ρ[n]?=some p):aa[n]?=some p:=by
 obtain ⟨⟨d,hd⟩,_⟩:=a
 rw [hd,gj (yN.mp h).1]
 exact h
def Ext.sqT (e:Ext ρ H aa H1) {a:Addr}{xs:List V}(h:bK K H a xs):bK K H1 a xs:=by
 rcases h with (h|⟨o,h⟩)|h
 ·exact .inl (.inl (e.imm _ _ h rfl))
 ·exact .inl (.inr ⟨o,e.imm _ _ h rfl⟩)
 ·exact .inr h
def Ext.frl (e:Ext ρ H aa H1) {a:Addr}{xs:List V}(h:fQ K H a xs):fQ K H1 a xs:=by
 rcases h with ⟨o,h⟩|h
 ·exact .inl ⟨o,e.imm _ _ h rfl⟩
 ·exact .inr h
mutual
theorem R.ext (e:Ext ρ H aa H1):∀(x:PV) {v:V},R K mg ρ H x v->R K mg aa H1 x v
 |.non,_,h=>h
 |.bl _,_,h=>h
 |.int _,_,h=>h
 |.str _,_,h=>h
 |.ty _,_,h=>h
 |.tup xs,_,h=>by
  obtain ⟨a,vs,h1,h2,h3⟩:=h
  exact ⟨a,vs,h1,e.sqT h2,Rs.ext e xs h3⟩
 |.frl xs,_,h=>by
  obtain ⟨a,vs,h1,h2,h3⟩:=h
  exact ⟨a,vs,h1,e.frl h2,Rs.ext e xs h3⟩
 |.ref n,_,h=>by
  obtain ⟨a,h1,h2⟩:=h
  exact ⟨a,h1,e.get h2⟩
 |.fn _,_,h=>h
 |.kd ks xs,_,h=>by
  obtain ⟨a,us,vs,h1,h2,h4,h3⟩:=h
  exact ⟨a,us,vs,h1,h2,h4,Rs.ext e xs h3⟩
 |.exo c ks xs,_,h=>by
  obtain ⟨a,C,h1,h2,⟨h3,h4⟩|⟨d,vs,h3,h4,h5,h6⟩⟩:=h
  ·exact ⟨a,C,h1,h2,.inl ⟨h3,e.imm _ _ h4 xn⟩⟩
  ·exact ⟨a,C,h1,h2,.inr ⟨d,vs,e.imm _ _ h3 xn,e.imm _ _ h4 rfl,Rs.ext e xs h5,h6⟩⟩
theorem Rs.ext (e:Ext ρ H aa H1):∀(xs:An) {vs:List V},Rs K mg ρ H xs vs->Rs K mg aa H1 xs vs
 |[],_,h=>h
 |x::xs,_,h=>by
  obtain ⟨v,r,h1,h2,h3⟩:=h
  exact ⟨v,r,h1,R.ext e x h2,Rs.ext e xs h3⟩
end
theorem a7.ext (e:Ext ρ H aa H1) {env:za}{σ:St}(h:a7 K mg ρ H env σ):a7 K mg aa H1 env σ :=
 ⟨h.len,λi x hx=>let ⟨v,a,b⟩:=h.at_ i x hx;⟨v,a,R.ext e x b⟩⟩
theorem Rs.len:∀{xs:An}{vs:List V},Rs K mg ρ H xs vs->xs.length=vs.length
 |[],_,h=>by cases h;rfl
 |x::xs,_,h=>by
  obtain ⟨v,r,rfl,_,h3⟩:=h
  simp [Rs.len h3]
theorem Rs.get:∀{xs:An}{vs:List V}{i:Nat}{x:PV},Rs K mg ρ H xs vs->xs[i]?=some x->∃v,vs[i]?=some v/\R K mg ρ H x v
 |[],_,_,_,_,e=>by simp at e
 |x::xs,_,0,_,h,e=>by
  obtain ⟨v,r,rfl,h2,h3⟩:=h
  simp at e
  subst e
  exact ⟨v,by simp,h2⟩
 |x::xs,_,i+1,y,h,e=>by
  obtain ⟨v,r,rfl,h2,h3⟩:=h
  simp at e
  obtain ⟨v',h4,h5⟩:=Rs.get h3 e
  exact ⟨v',by simpa using h4,h5⟩
theorem Rs.append:∀{xs ys:An}{vs ws:List V},Rs K mg ρ H xs vs->Rs K mg ρ H ys ws->Rs K mg ρ H (xs++ys) (vs++ws)
 |[],_,_,_,h,h'=>by cases h;exact h'
 |x::xs,_,_,_,h,h'=>by
  obtain ⟨v,r,rfl,h2,h3⟩:=h
  exact ⟨v,r++_,rfl,h2,Rs.append h3 h'⟩
theorem Rs.take:∀{xs:An}{vs:List V}(n:Nat),Rs K mg ρ H xs vs->Rs K mg ρ H (xs.take n) (vs.take n)
 |[],_,n,h=>by cases h;simp [Rs]
 |x::xs,_,0,h=>by simp [Rs]
 |x::xs,_,n+1,h=>by
  obtain ⟨v,r,rfl,h2,h3⟩:=h
  exact ⟨v,_,rfl,h2,Rs.take n h3⟩
theorem Rs.drop:∀{xs:An}{vs:List V}(n:Nat),Rs K mg ρ H xs vs->Rs K mg ρ H (xs.drop n) (vs.drop n)
 |[],_,n,h=>by cases h;simp [Rs]
 |x::xs,_,0,h=>h
 |x::xs,_,n+1,h=>by
  obtain ⟨v,r,rfl,h2,h3⟩:=h
  exact Rs.drop n h3
theorem Rs.set:∀{xs:An}{vs:List V}{x:PV}{v:V}(i:Nat),Rs K mg ρ H xs vs->R K mg ρ H x v->Rs K mg ρ H (xs.set i x) (vs.set i v)
 |[],_,_,_,i,h,_=>by cases h;simp [Rs]
 |x::xs,_,_,_,0,h,q=>by
  obtain ⟨v,r,rfl,h2,h3⟩:=h
  exact ⟨_,_,rfl,q,h3⟩
 |x::xs,_,_,_,i+1,h,q=>by
  obtain ⟨v,r,rfl,h2,h3⟩:=h
  exact ⟨_,_,rfl,h2,Rs.set i h3 q⟩
theorem a7.set {env:za}{σ:St}{x:PV}{v:V}(h:a7 K mg ρ H env σ) (i:Nat) (r:R K mg ρ H x v):a7 K mg ρ H (env.set i (some x)) (σ.set i (some v)):=by
 refine ⟨by simp [h.len],λj y hy=>?_⟩
 rw [List.getElem?_set] at hy ⊢
 by_cases cA:i=j
 ·subst cA
  by_cases hl:i<env.length
  ·rw [zj rfl,zj hl] at hy
   rw [zj rfl,zj (by rw [<-h.len];exact hl)]
   cases hy
   exact ⟨v,rfl,r⟩
  ·rw [zj rfl,zx hl] at hy
   cases hy
 ·rw [zx cA] at hy ⊢
  exact h.at_ j y hy
def a7.unset {env:za}{σ:St}(h:a7 K mg ρ H env σ) (i:Nat):a7 K mg ρ H (env.set i none) (σ.set i none):=by
 refine ⟨by simp [h.len],λj y hy=>?_⟩
 rw [List.getElem?_set] at hy ⊢
 by_cases cA:i=j
 ·subst cA
  by_cases hl:i<env.length
  ·rw [zj rfl,zj hl] at hy
   cases hy
  ·rw [zj rfl,zx hl] at hy
   cases hy
 ·rw [zx cA] at hy ⊢
  exact h.at_ j y hy
def a7.cons {env:za}{σ:St}{x:PV}{v:V}(h:a7 K mg ρ H env σ) (r:R K mg ρ H x v):a7 K mg ρ H (some x::env) (some v::σ):=by
 refine ⟨by simp [h.len],λj y hy=>?_⟩
 cases j with
 |zero=>simp at hy;subst hy;exact ⟨v,by simp,r⟩
 |succ j=>simp at hy;simpa using h.at_ j y hy
def aZ.addr {st:aj}{n:Nat}{so:SO}(s:aZ K mg ρ H st) (e:st[n]?=some so) {a:Addr}(ha:ρ[n]?=some a):eB K mg ρ H so a:=by
 obtain ⟨b,hb,h⟩:=s.at_ n so e
 rw [ha] at hb
 cases hb
 exact h
theorem eB.some {so:SO}{a:Addr}(h:eB K mg ρ H so a):∃o,H a=some o/\True:=by
 cases so with
 |lst xs=>obtain ⟨vs,h,_⟩:=h;exact ⟨_,h,trivial⟩
 |dic ks xs=>obtain ⟨vs,h,_⟩:=h;exact ⟨_,h,trivial⟩
 |ins c ks xs=>obtain ⟨C,dx,vs,_,h,_⟩:=h;exact ⟨_,h,trivial⟩
 |fdi ks xs=>obtain ⟨o,vs,h,_⟩:=h;exact ⟨_,h,trivial⟩
 |dit ks xs=>obtain ⟨its,vs,h,_⟩:=h;exact ⟨_,h,trivial⟩
def aZ.in_ {st:aj}{n:Nat}{a:Addr}(s:aZ K mg ρ H st) (h:ρ[n]?=some a):∃so,st[n]?=some so/\eB K mg ρ H so a:=by
 have hl:n<st.length:=by rw [<-s.len];exact (yN.mp h).1
 refine ⟨st[n],by simp [hl],s.addr (by simp [hl]) h⟩
def eB.ext' {so:SO}{a:Addr}(e:Ext ρ H aa H1) (h:eB K mg ρ H so a) (k:H1 a=H a):eB K mg aa H1 so a:=by
 cases so with
 |lst xs=>obtain ⟨vs,h1,h2⟩:=h;exact ⟨vs,by rw [k];exact h1,Rs.ext e xs h2⟩
 |dic ks xs=>obtain ⟨vs,h1,h2,h3⟩:=h;exact ⟨vs,by rw [k];exact h1,Rs.ext e xs h2,h3⟩
 |ins c ks xs=>obtain ⟨C,dx,vs,h0,h1,h2,h3⟩:=h;exact ⟨C,dx,vs,h0,by rw [k];exact h1,Rs.ext e xs h2,h3⟩
 |fdi ks xs=>obtain ⟨o,vs,h1,h2,h3⟩:=h;exact ⟨o,vs,by rw [k];exact h1,Rs.ext e xs h2,h3⟩
 |dit ks xs=>obtain ⟨its,vs,h1,h2,h3,h4,h5⟩:=h;exact ⟨its,vs,by rw [k];exact h1,h2,λx hx=>e.sqT (h3 x hx),h4,Rs.ext e xs h5⟩
def Ext.new {p:Addr}{o:HO}(hp:H p=none):Ext ρ H ρ (upd H p o) :=
 ⟨⟨[],by simp⟩,λa o' h _=>by rw [zR (wD h hp)];exact h⟩
theorem aZ.new {st:aj}{p:Addr}{o:HO}(s:aZ K mg ρ H st) (hp:H p=none):aZ K mg ρ (upd H p o) st :=
 ⟨s.len,s.nd,λn so e=>by
  obtain ⟨a,ha,h⟩:=s.at_ n so e
  obtain ⟨o',ho,_⟩:=h.some
  exact ⟨a,ha,h.ext' (Ext.new hp) (zR (wD ho hp))⟩⟩
def Ext.push {p:Addr}{o:HO}(hp:H p=none):Ext ρ H (ρ++[p]) (upd H p o) :=
 ⟨⟨[p],rfl⟩,λa o' h _=>by rw [zR (wD h hp)];exact h⟩
theorem aZ.push {st:aj}{p:Addr}{o:HO}{so:SO}(s:aZ K mg ρ H st) (hp:H p=none) (n:eB K mg (ρ++[p]) (upd H p o) so p):aZ K mg (ρ++[p]) (upd H p o) (st++[so]):=by
 refine ⟨by simp [s.len],?_,λi fy e=>?_⟩
 ·refine List.nodup_append.mpr ⟨s.nd,by simp,λa ha b hb=>?_⟩
  obtain rfl:b=p:=by simpa using hb
  obtain ⟨n,hn⟩:=List.getElem?_of_mem ha
  obtain ⟨fy,_,h⟩:=s.in_ hn
  obtain ⟨o',ho,_⟩:=h.some
  exact wD ho hp
 ·by_cases hi:i<st.length
  ·rw [gj hi] at e
   obtain ⟨a,ha,h⟩:=s.at_ i fy e
   obtain ⟨o',ho,_⟩:=h.some
   exact ⟨a,(Ext.push (o:=o) hp).get ha,h.ext' (Ext.push hp) (zR (wD ho hp))⟩
  ·rw [hV (by omega)] at e
   have kW:i=st.length:=by
    have:=(yN.mp e).1
    simp at this
    omega
   subst kW
   simp at e
   subst e
   exact ⟨p,by rw [<-s.len];simp,n⟩
def Ext.write {a:Addr}{o o':HO}(ha:H a=some o) (hi:q_ o=false):Ext ρ H ρ (upd H a o') :=
 ⟨⟨[],by simp⟩,λb u h m=>by
  rw [zR]
  ·exact h
  ·intro z;subst z;rw [ha] at h;cases h;rw [hi] at m;cases m⟩
def aZ.write {st:aj}{n:Nat}{a:Addr}{o':HO}{so:SO}(s:aZ K mg ρ H st) (hn:ρ[n]?=some a) (ew:Ext ρ H ρ (upd H a o')) (h:eB K mg ρ (upd H a o') so a):aZ K mg ρ (upd H a o') (st.set n so):=by
 refine ⟨by simp [s.len],s.nd,λi fy e=>?_⟩
 rw [List.getElem?_set] at e
 by_cases cA:n=i
 ·subst cA
  rw [zj rfl] at e
  split at e
  ·cases e;exact ⟨a,hn,h⟩
  ·cases e
 ·rw [zx cA] at e
  obtain ⟨b,hb,q⟩:=s.at_ i fy e
  have ne:b≠a:=by
   intro z
   subst z
   obtain ⟨h1,h2⟩:=yN.mp hn
   obtain ⟨h3,h4⟩:=yN.mp hb
   have pw:=List.pairwise_iff_getElem.mp s.nd
   rcases Nat.lt_trichotomy n i with c|c|c
   ·exact pw n i h1 h3 c (h2.trans h4.symm)
   ·exact cA c
   ·exact pw i n h3 h1 c (h4.trans h2.symm)
  exact ⟨b,hb,q.ext' ew (zR ne)⟩
section
variable {U β:Type} {E:XK} {good:List Addr->Hp->U->aj->Prop}
def Out.ext {r:Res U}(h:Out K mg ρ H r good E) (e:Ext ρ H aa H1):Out K mg aa H1 r good E:=by
 cases r with
 |ok x st=>exact λaf H' e' s=>h af H' (e.trans e') s
 |err c ks xs st=>exact λaf H' C d e' s x=>h af H' C d (e.trans e') s x
 |stuck=>exact h
def Out.mono {r:Res U}{de:List Addr->Hp->U->aj->Prop}(h:Out K mg ρ H r good E) (g:∀af H' x st,Ext ρ H af H'->aZ K mg af H' st->good af H' x st->de af H' x st):Out K mg ρ H r de E:=by
 cases r with
 |ok x st=>exact λaf H' e' s=>g af H' x st e' s (h af H' e' s)
 |err c ks xs st=>exact h
 |stuck=>exact h
theorem Out.bind {r:Res β}{f:β->Mo U}(h:Out K mg ρ H (r.bind f) good E):Out K mg ρ H r (λaf H' x st=>Out K mg af H' (f x st) good E) E:=by
 cases r with
 |ok x st=>exact λaf H' e' s=>Out.ext h e'
 |err c ks xs st=>exact h
 |stuck=>exact h
def Out.then {r:Res β}{f:β->Mo U}{de:List Addr->Hp->β->aj->Prop}(h:Out K mg ρ H (r.bind f) good E) (g:∀af H' x st,Ext ρ H af H'->aZ K mg af H' st->Out K mg af H' (f x st) good E->de af H' x st):Out K mg ρ H r de E:=h.bind.mono g
def Out.now {x:U}{st:aj}(h:Out K mg ρ H (.ok x st) good E) (s:aZ K mg ρ H st):good ρ H x st:=h ρ H Ext.refl s
end
end
end Mi
namespace Mi
open PySem L2 PySem.W PySem.Spec
abbrev lim:Nat:=1000000
def jz {n:Nat}(h:n<=lim):n<=sizeLine:=by rw [sizeLine_eq];show n<=16777216;exact yW h (by decide)
section
variable (K:Frag) (mg:Ab)
def tM (Er:XK) (f:Ai):TE:=fun σ H Q=>∃env st ρ,a7 K mg ρ H env σ/\aZ K mg ρ H st/\Out K mg ρ H (f env st) (gV K mg Q) Er
def rg (Er:XK) (f:Ak):TT:=fun σ H Q=>∃env st ρ,a7 K mg ρ H env σ/\aZ K mg ρ H st/\Out K mg ρ H (f env st) (gB Q) Er
def HX (Er:XK) (f:Ah):TA:=fun σ H Q=>∃env st ρ,a7 K mg ρ H env σ/\aZ K mg ρ H st/\Out K mg ρ H (f env st) (HW K mg Q) Er
def sM (Er:XK) (f:Aj):TS:=λD σ H=>∃env st ρ,a7 K mg ρ H env σ/\aZ K mg ρ H st/\Out K mg ρ H (f env st) (gS K mg D) Er
end
def ME (X:Cx) (Er:XK) (e:Expr) (f:Ai):Prop:=PE X e (tM X.K X.mg Er f)
def MT (X:Cx) (Er:XK) (e:Expr) (f:Ak):Prop:=PT X e (rg X.K X.mg Er f)
def MW (X:Cx) (Er:XK) (e:Expr) (f:Ak):Prop:=PW X e (rg X.K X.mg Er f)
def MA (X:Cx) (Er:XK) (e:List Expr) (f:Ah):Prop:=PA X e (HX X.K X.mg Er f)
def MS (X:Cx) (Er:XK) (e:Stmt) (f:Aj):Prop:=PS X e (sM X.K X.mg Er f)
def df (X:Cx) (Er:XK) (e:List Stmt) (f:Aj):Prop:=b6 X e (sM X.K X.mg Er f)
section
variable {X:Cx} {Er:XK} {e a b c:Expr} {es:List Expr} {pos:Pos} {t t':TE}
def PE.weak (h:PE X e t) (w:∀σ H Q,t' σ H Q->t σ H Q):PE X e t':=λpins s σ H Q I q=>h pins s σ H Q I (w σ H Q q)
def PT.weak {t t':TT}(h:PT X e t) (w:∀σ H Q,t' σ H Q->t σ H Q):PT X e t':=λpins s σ H Q I q=>h pins s σ H Q I (w σ H Q q)
def PW.weak {t t':TT}(h:PW X e t) (w:∀σ H Q,t' σ H Q->t σ H Q):PW X e t':=λwh pins s σ H Q I q=>h wh pins s σ H Q I (w σ H Q q)
def PA.weak {t t':TA}(h:PA X es t) (w:∀σ H Q,t' σ H Q->t σ H Q):PA X es t':=λpos pins s σ H Q I q=>h pos pins s σ H Q I (w σ H Q q)
def PS.weak {st:Stmt}{t t':TS}(h:PS X st t) (w:∀D σ H,t' D σ H->t D σ H):PS X st t':=λpins s σ H D I q=>h pins s σ H D I (w D σ H q)
def b6.weak {st:List Stmt}{t t':TS}(h:b6 X st t) (w:∀D σ H,t' D σ H->t D σ H):b6 X st t':=λpins s σ H D I q=>h pins s σ H D I (w D σ H q)
def zb (i:Nat):Ai:=λenv st=>match env[i]? with
 |some (some x)=>.ok x st
 |_=>.stuck
def mC (x:PV):Ai:=λ_ st=>.ok x st
def zd (i:Nat) {x:Str} {pos:Pos} (hN:X.N[i]?=some x:=by rfl) (hv:qm X.env.scope x:=by first|exact Or.inl rfl|exact Or.inr (Or.inl rfl)|exact Or.inr (Or.inr rfl)) (hd:(x==("__debug__" : Str))=false:=by decide)
  (dU:(x==("__classdict__" : Str))=false:=by decide):ME X Er (.Name x pos) (zb i):=PE.weak (Ep hN hv hd dU) fun σ H Q ⟨env,st,ρ,re,rs,h⟩=>by
 unfold zb at h
 split at h
 ·rename_i x' hx
  obtain ⟨v,h1,h2⟩:=re.at_ i x' hx
  exact ⟨v,h1,h.now rs v h2⟩
 ·exact h.elim
def kZ {x:PV}{v:V}(hp:PE X e (tC v)) (hr:∀ρ H,R X.K X.mg ρ H x v):ME X Er e (mC x):=PE.weak hp fun σ H Q ⟨env,st,ρ,re,rs,h⟩=>h.now rs v (hr ρ H)
def zq {i:Int}{j}:ME X Er (.Constant (.int i) j pos) (mC (.int i)):=kZ Es λ_ _=>rfl
def zP {x:Str}{j}:ME X Er (.Constant (.str x) j pos) (mC (.str x)):=kZ Ew λ_ _=>rfl
def jQ {b:Bool}{j}:ME X Er (.Constant (.bool b) j pos) (mC (.bl b)):=kZ Et λ_ _=>rfl
def znC {j}:ME X Er (.Constant .none j pos) (mC .non):=kZ Eu λ_ _=>rfl
def rh {x:Str} {p:PV} {v:V} {u:Value} (hm:X.mg x=some u) (r:RelV v u) (hr:∀ρ H,R X.K X.mg ρ H p v) (hg:Gl X x:=by rfl) (hd:(x==("__debug__" : Str))=false:=by decide):ME X Er (.Name x pos) (mC p):=kZ (Ex hg hm r hd) hr
def dh (K:Frag) (mg:Ab) (r:R2) (op:Am):Prop:=∀ρ H st x y v w (Q:VK) (E:XK),aZ K mg ρ H st->R K mg ρ H x v->R K mg ρ H y w->Out K mg ρ H (op x y st) (gV K mg Q) E->r v w H Q
def zf (op:Am) (fa fb:Ai):Ai:=λenv st=>(fa env st).bind λx au=>(fb env au).bind λy aK=>op x y aK
variable {fa fb fc:Ai}
def oH {r:R2}{op:Am}{K:Frag}{mg:Ab}(hm:dh K mg r op) {σ:St}{H:Hp}{Q:VK}(h:tM K mg Er (zf op fa fb) σ H Q):l6 r (tM K mg Er fa) (tM K mg Er fb) σ H Q:=by
 obtain ⟨env,st,ρ,re,rs,h⟩:=h
 exact ⟨env,st,ρ,re,rs,h.then λaa H1 x au e1 s1 h1 v rv=>⟨env,au,aa,re.ext e1,s1,h1.then λai H2 y aK e2 s2 h2 w rw=>hm ai H2 aK x y v w Q Er s2 (R.ext e2 x rv) rw h2⟩⟩
def HY {o:Operator}{r:R2}{op:Am}(ho:bb X (binaryOp o) r) (hm:dh X.K X.mg r op) (ha:ME X Er a fa) (hb:ME X Er b fb):ME X Er (.BinOp a o b pos) (zf op fa fb) :=
 PE.weak (Fi ho ha hb) fun σ H Q h=>oH hm h
def HZ {o:CmpOp}{r:R2}{op:Am}(ho:bb X (compareOp o) r) (hm:dh X.K X.mg r op) (ha:ME X Er a fa) (hb:ME X Er b fb) (hk:behindInMarks o b=false):ME X Er (.Compare a [o] [b] pos) (zf op fa fb) :=
 PE.weak (FA ho ha hb hk) fun σ H Q h=>oH hm h
def fR:PV->Mo Bool
 |.bl b,st=>.ok b st
 |_,_=>.stuck
def mB (f:Ai):Ak:=λenv st=>(f env st).bind fR
def H8 {K:Frag}{mg:Ab}{ρ:Ae}{H:Hp}{x:PV}{st:aj}{Q:Bool->Hp->Prop}(s:aZ K mg ρ H st) (h:Out K mg ρ H (fR x st) (gB Q) Er) {v:V}(r:R K mg ρ H x v):∃k,v=.bl k/\Q k H:=by
 unfold fR at h
 split at h
 ·cases r;exact ⟨_,rfl,h.now s⟩
 ·exact h.elim
def xo {U:Type}{K:Frag}{mg:Ab}{ρ:Ae}{H:Hp}{x:PV}{st:aj}{f:Bool->Mo U}{good:List Addr->Hp->U->aj->Prop}(h:Out K mg ρ H ((fR x st).bind f) good Er):∃k,x=.bl k/\Out K mg ρ H (f k st) good Er:=by
 cases x with
 |bl k=>exact ⟨k,rfl,h⟩
 |_=>exact h.elim
def ri {f:Ai}{K:Frag}{mg:Ab}{σ:St}{H:Hp}{Q:Bool->Hp->Prop}(h:rg K mg Er (mB f) σ H Q):tM K mg Er f σ H λx H1=>∃c,x=.bl c/\Q c H1:=by
 obtain ⟨env,st,ρ,re,rs,h⟩:=h
 exact ⟨env,st,ρ,re,rs,h.then λaa H1 x au e1 s1 h1 v rv=>H8 s1 h1 rv⟩
def H9 {o:CmpOp}{r:R2}{op:Am}(ho:bb X (compareOp o) r) (hm:dh X.K X.mg r op) (ha:ME X Er a fa) (hb:ME X Er b fb) (hk:behindInMarks o b=false):MT X Er (.Compare a [o] [b] pos) (mB (zf op fa fb)) :=
 PT.weak (FC ho ha hb hk) fun σ H Q h=>oH hm (ri h)
def yt (h:ME X Er e fa) (he:∀whole,isTrue e X.env whole=(do let v <-whole;standAt e.pos;holding [v] (truthy v)):=by intro _;rfl):MT X Er e (mB fa) :=
 PT.weak (Ez h he) fun σ H Q h=>ri h
def jI (op b7:Am) (fa fb fc:Ai):Ai:=λenv st=>(fa env st).bind λx au=>(fb env au).bind λy aK=>(op x y aK).bind λk ba=>(fR k ba).bind λb oI =>
 if b=true then (fc env oI).bind λz cM=>b7 y z cM else .ok (.bl false) oI
def xq {r r':R2}{op b7:Am}{K:Frag}{mg:Ab}(hm:dh K mg r op) (hm':dh K mg r' b7) {σ:St}{H:Hp}{Q:VK}(h:tM K mg Er (jI op b7 fa fb fc) σ H Q):qu r r' (tM K mg Er fa) (tM K mg Er fb) (tM K mg Er fc) σ H Q:=by
 obtain ⟨env,st,ρ,re,rs,h⟩:=h
 refine ⟨env,st,ρ,re,rs,h.then λaa H1 x au e1 s1 h1 v rv=>⟨env,au,aa,re.ext e1,s1,h1.then λai H2 y aK e2 s2 h2 w rw=>?_⟩⟩
 refine hm ai H2 aK x y v w _ Er s2 (R.ext e2 x rv) rw (h2.then λak H3 z ba e3 s3 h3 u ru=>?_)
 obtain ⟨b,rfl,h4⟩:=xo h3
 cases ru
 refine ⟨b,rfl,?_⟩
 cases b with
 |true=>exact ⟨env,ba,ak,((re.ext e1).ext e2).ext e3,s3,Out.then (f:=λz cM=>b7 y z cM) h4 λaG H5 z cM e5 s5 h5 w' ck=>hm' aG H5 cM y z w w' Q Er s5 (R.ext e5 y (R.ext e3 y rw)) ck h5⟩
 |false=>exact Out.now (x:=PV.bl false) h4 s3 _ rfl
def H_ {o o':CmpOp}{r r':R2}{op b7:Am}(ho:bb X (compareOp o) r) (hm:dh X.K X.mg r op) (ho':bb X (compareOp o') r') (hm':dh X.K X.mg r' b7) (ha:ME X Er a fa) (hb:ME X Er b fb) (hc:ME X Er c fc)
  (hk:lastMarks [o,o'] [b,c]=false:=by with_unfolding_all rfl):ME X Er (.Compare a [o,o'] [b,c] pos) (jI op b7 fa fb fc):=PE.weak (FD ho ho' ha hb hc hk) fun σ H Q h=>xq hm hm' h
def Ia {o o':CmpOp}{r r':R2}{op b7:Am}(ho:bb X (compareOp o) r) (hm:dh X.K X.mg r op) (ho':bb X (compareOp o') r') (hm':dh X.K X.mg r' b7) (ha:ME X Er a fa) (hb:ME X Er b fb) (hc:ME X Er c fc)
  (hk:lastMarks [o,o'] [b,c]=false:=by with_unfolding_all rfl):MT X Er (.Compare a [o,o'] [b,c] pos) (mB (jI op b7 fa fb fc)):=PT.weak (FE ho ho' ha hb hc hk) fun σ H Q h=>xq hm hm' (ri h)
def xt (K:Frag) (mg:Ab) (r:V->Hp->VK->Prop) (op:PV->Mo PV):Prop:=∀ρ H st x v (Q:VK) (E:XK),aZ K mg ρ H st->R K mg ρ H x v->Out K mg ρ H (op x st) (gV K mg Q) E->r v H Q
def yJ (op:PV->Mo PV) (fa:Ai):Ai:=λenv st=>(fa env st).bind op
def Ib {o:UnaryOp}{r:V->Hp->VK->Prop}{op:PV->Mo PV}(ho:lZ X (unaryOp o) r) (hm:xt X.K X.mg r op) (ha:ME X Er a fa):ME X Er (.UnaryOp o a pos) (yJ op fa) :=
 PE.weak (Fj ho ha) fun σ H Q ⟨env,st,ρ,re,rs,h⟩=>⟨env,st,ρ,re,rs,h.then λaa H1 x au e1 s1 h1 v rv=>hm aa H1 au x v Q Er s1 rv h1⟩
variable {ga gb:Ak} {rest:List Expr}
def wF (ga gb:Ak):Ak:=λenv st=>(ga env st).bind λc au=>if c=true then gb env au else .ok false au
def ju (ga gb:Ak):Ak:=λenv st=>(ga env st).bind λc au=>if c=true then .ok true au else gb env au
def yT (ga:Ak):Ak:=λenv st=>(ga env st).bind λc au=>.ok (!c) au
def zcc (ha:MT X Er a ga):MW X Er (.BoolOp .And [a] pos) ga:=ED ha
def wW (ha:MT X Er a ga):MW X Er (.BoolOp .Or [a] pos) ga:=EE ha
def zcd (ha:MT X Er a ga) (hb:MW X Er (.BoolOp .And (b::rest) pos) gb):MW X Er (.BoolOp .And (a::b::rest) pos) (wF ga gb) :=
 PW.weak (EF ha hb) fun σ H Q ⟨env,st,ρ,re,rs,h⟩=>⟨env,st,ρ,re,rs,h.then λaa H1 k au e1 s1 h1=>by
  cases k with
  |true=>exact ⟨env,au,aa,re.ext e1,s1,h1⟩
  |false=>exact h1.now s1⟩
def wX (ha:MT X Er a ga) (hb:MW X Er (.BoolOp .Or (b::rest) pos) gb):MW X Er (.BoolOp .Or (a::b::rest) pos) (ju ga gb) :=
 PW.weak (EG ha hb) fun σ H Q ⟨env,st,ρ,re,rs,h⟩=>⟨env,st,ρ,re,rs,h.then λaa H1 k au e1 s1 h1=>by
  cases k with
  |false=>exact ⟨env,au,aa,re.ext e1,s1,h1⟩
  |true=>exact h1.now s1⟩
def jJ {op:BoolOp}(h:MW X Er (.BoolOp op es pos) ga):MT X Er (.BoolOp op es pos) ga:=PW.pt h
def j3 (ha:MT X Er a ga):MT X Er (.UnaryOp .Not a pos) (yT ga):=PT.weak (EH ha) fun σ H Q ⟨env,st,ρ,re,rs,h⟩=>⟨env,st,ρ,re,rs,h.then λaa H1 k au e1 s1 h1=>h1.now s1⟩
def iF (fa fb:Ai):Ai:=λenv st=>(fa env st).bind λx au=>(fR x au).bind λc aK=>if c=true then fb env aK else .ok (.bl false) aK
def zel {op}(h:ME X Er a fa):ME X Er (.BoolOp op [a] pos) fa:=EJ h
def zc3 (ha:ME X Er a fa) (hb:ME X Er (.BoolOp .And (b::rest) pos) fb):ME X Er (.BoolOp .And (a::b::rest) pos) (iF fa fb) :=
 PE.weak (EK ha hb) fun σ H Q ⟨env,st,ρ,re,rs,h⟩=>⟨env,st,ρ,re,rs,h.then λaa H1 x au e1 s1 h1 v rv=>by
  obtain ⟨k,rfl,h1⟩:=xo h1
  cases rv
  refine ⟨k,rfl,?_⟩
  cases k with
  |true=>exact ⟨env,au,aa,re.ext e1,s1,h1⟩
  |false=>exact Out.now (x:=PV.bl false) h1 s1 _ rfl⟩
def rj (g:Ak) (fa fb:Ai):Ai:=λenv st=>(g env st).bind λc au=>if c=true then fa env au else fb env au
def znK {c:Expr}(hc:MT X Er c ga) (ha:ME X Er a fa) (hb:ME X Er b fb):ME X Er (.IfExp c a b pos) (rj ga fa fb) :=
 PE.weak (EM hc ha hb) fun σ H Q ⟨env,st,ρ,re,rs,h⟩=>⟨env,st,ρ,re,rs,h.then λaa H1 k au e1 s1 h1=>by
  cases k with
  |true=>exact ⟨env,au,aa,re.ext e1,s1,h1⟩
  |false=>exact ⟨env,au,aa,re.ext e1,s1,h1⟩⟩
def zg:Ah:=λ_ st=>.ok [] st
def ze (f:Ai) (fs:Ah):Ah:=λenv st=>(f env st).bind λx au=>(fs env au).bind λxs aK=>.ok (x::xs) aK
variable {fs:Ah}
def zp:MA X Er [] zg:=PA.weak nV fun σ H Q ⟨env,st,ρ,re,rs,h⟩=>h.now rs [] rfl
def xu (ha:ME X Er e fa) (hr:MA X Er es fs) (hs:starEach (e::es) X.env=(false,eval e X.env)::starEach es X.env:=by rfl):MA X Er (e::es) (ze fa fs) :=
 PA.weak (nW ha hr hs) fun σ H Q ⟨env,st,ρ,re,rs,h⟩=>⟨env,st,ρ,re,rs,h.then λaa H1 x au e1 s1 h1 v rv=>⟨env,au,aa,re.ext e1,s1,h1.then λai H2 xs aK e2 s2 h2 vs Ic =>
  h2.now s2 (v::vs) ⟨v,vs,rfl,R.ext e2 x rv,Ic⟩⟩⟩
def oJ (fs:Ah):Ai:=λenv st=>(fs env st).bind λxs au=>if xs.length<=lim then .ok (.tup xs) au else .stuck
def y1 (fs:Ah):Ai:=λenv st=>(fs env st).bind λxs au=>if xs.length<=lim then .ok (.ref au.length) (au++[.lst xs]) else .stuck
def R.tup_of {K:Frag}{mg:Ab}{ρ:Ae}{H:Hp}{xs:An}{vs:List V}{p:Addr}(r:Rs K mg ρ H xs vs) (hp:H p=none):R K mg ρ (upd H p (.tup vs)) (.tup xs) (.ref p) :=
 ⟨p,vs,rfl,bK.of yD,Rs.ext (Ext.new hp) xs r⟩
def znL {x1}(h:MA X Er es fs):ME X Er (.Tuple es x1 pos) (oJ fs) :=
 PE.weak (F9 h) fun σ H Q ⟨env,st,ρ,re,rs,h⟩=>⟨env,st,ρ,re,rs,h.then λaa H1 xs au e1 s1 h1 vs rv=>by
  split at h1
  ·rename_i hl
   exact ⟨by rw [<-rv.len];exact jz hl,λp hp=>h1 aa _ (Ext.new hp) (s1.new hp) _ (R.tup_of rv hp)⟩
  ·exact h1.elim⟩
def Out.newList {K:Frag}{mg:Ab}{ρ:Ae}{H:Hp}{st:aj}{xs:An}{vs:List V}{p:Addr}{Q:VK}(h:Out K mg ρ H (.ok (.ref st.length) (st++[.lst xs])) (gV K mg Q) Er) (s:aZ K mg ρ H st) (r:Rs K mg ρ H xs vs) (hp:H p=none):Q (.ref p) (upd H p (.lst vs)) :=
 h (ρ++[p]) _ (Ext.push hp) (s.push hp ⟨vs,yD,Rs.ext (Ext.push hp) xs r⟩) _ ⟨p,rfl,by rw [<-s.len];simp⟩
def jA (h:MA X Er es fs):ME X Er (.List es pos) (y1 fs) :=
 PE.weak (F_ h) fun σ H Q ⟨env,st,ρ,re,rs,h⟩=>⟨env,st,ρ,re,rs,h.then λaa H1 xs au e1 s1 h1 vs rv=>by
  split at h1
  ·rename_i hl
   exact ⟨by rw [<-rv.len];exact jz hl,λp hp=>Out.newList h1 s1 rv hp⟩
  ·exact h1.elim⟩
def Ie {r:R2}{op:Am}(ho:eA X r) (hm:dh X.K X.mg r op) (ha:ME X Er a fa) (hb:ME X Er b fb) (hs:eM b:=by exact λ_ _=>rfl):ME X Er (.Subscript a b pos) (zf op fa fb) :=
 PE.weak (GD ho ha hb hs) fun σ H Q h=>oH hm h
end
end Mi
namespace HT
open PySem PySem.Spec PyProof.Rows
section
variable {prog:Program} {w:World} {A:Around} {E:Aa} {s:Shared}
def getItem_tuple_all {t sl:Addr}{items:Array Value}{vl vu:Value}{lo hi:Option Int}{Q:Aa}(ht:IsTup s.heap t items) (hs:s.heap.IsSliceOf sl vl vu .none) (pl:IsPart vl lo) (pu:IsPart vu hi)
  (hw:sIx items.size 0 lo=0/\sIx items.size items.size hi=items.size) (h:Q (.ref t) s)
  (hsz:items.size<=sizeLine):wpAny (model prog w) A (getItem (.ref t) (.ref sl)) Q E s:=by
 obtain ⟨os,h_,nZ,ia⟩:=id hs
 have qE:s.TypeIs (.ref sl) "slice" := ⟨os,h_,nZ⟩
 unfold getItem
 try with_reducible refine fI ?_
 first|refine zy (zW ?_)|skip
 refine zy (wpAny_sequenceKey ht.typeIs (by decide) ?_)
 refine zy (wpAny_callSpecial?_slot (name:=Str.ofString "__getitem__") ht.typeIs PyProof.Rows.slot_tuple_getitem
  (wpAny_call_entry PyProof.Rows.slot_tuple_getitem ht.typeIs entry_tuple_getitem ?_ (args_tuple_getitem _ _)))
 show wpAny _ _ (Builtin.Tuple.tupleItemsOf (.ref t) >>= _) _ _ s
 refine zy (tupleItemsOf_ ht ?_)
 refine zy (wpAny_typeOf qE ?_)
 rw [zj (by decide)]
 refine zy (vz hs pl pu ?_)
 have xv:(((sIx items.size 0 lo:Nat):Int)==0&&(1:Int)==1&&(sIx items.size items.size hi-sIx items.size 0 lo)==items.size)=true:=by
  rw [hw.1,hw.2];simp
 show wpAny _ _ (if (((sIx items.size 0 lo:Nat):Int)==0&&(1:Int)==1&&(sIx items.size items.size hi-sIx items.size 0 lo)==items.size)=true then _ else _) _ _ s
 rw [zj xv]
 unfold Builtin.Tuple.tupleIsExact
 refine zy (zy (wpAny_typeOf ht.typeIs (zW ?_)))
 rw [zj (by decide)]
 exact zy (wpAny_rule (zW ⟨_,rfl,zW h⟩))
def cat_tup0 {t b:Addr}{ws:Af}{Q:Aa}(ht:IsTup s.heap t #[]) (hb:IsTup s.heap b ws.toArray) (h1:Q (.ref b) s):wpAny (model prog w) A (binaryOp .Add (.ref t) (.ref b)) Q E s:=by
 obtain ⟨⟨cls,dd,data,sl⟩,ho,hc,n,hd⟩:=id ht
 obtain ⟨⟨vv,nX,data2,nY⟩,h9,ma,n2,hd2⟩:=id hb
 simp only at hc hd ma hd2
 subst hc hd ma hd2
 exact concat_meets ⟨_,ho,rfl⟩ ⟨_,h9,rfl⟩ noFill_tuple_add seq_tuple_add PySem.F.slot_tuple_add PySem.F.entry_tuple_add (PySem.F.args_tuple_add_2 _ _)
   (tuple_addW0 t b #[] ws.toArray n n2 dd nX sl nY (by simp)) ⟨ho,h9,h1⟩
end
end HT
namespace Mi
open PySem L2 PySem.W PySem.Spec
section
variable {X:Cx} {Er:XK} {K:Frag} {mg:Ab}
def cS (X:Cx) (o:Operator) (op:Am):Prop:=∃r,bb X (binaryOp o) r/\dh X.K X.mg r op
def bV (X:Cx) (o:CmpOp) (op:Am):Prop:=∃r,bb X (compareOp o) r/\dh X.K X.mg r op
def kE (X:Cx) (op:Am):Prop:=∃r,eA X r/\dh X.K X.mg r op
def qc (X:Cx) (o:UnaryOp) (op:PV->Mo PV):Prop:=∃r,lZ X (unaryOp o) r/\xt X.K X.mg r op
variable {a b c e:Expr} {pos:Pos} {fa fb fc:Ai}
def zu {o:Operator}{op:Am}(h:cS X o op) (ha:ME X Er a fa) (hb:ME X Er b fb):ME X Er (.BinOp a o b pos) (zf op fa fb):=let ⟨_,h1,h2⟩:=h;HY h1 h2 ha hb
def Ig {o:CmpOp}{op:Am}(h:bV X o op) (ha:ME X Er a fa) (hb:ME X Er b fb) (hk:behindInMarks o b=false:=by first|exact ky _|with_unfolding_all rfl):ME X Er (.Compare a [o] [b] pos) (zf op fa fb):=let ⟨_,h1,h2⟩:=h;HZ h1 h2 ha hb hk
def ye {o:CmpOp}{op:Am}(h:bV X o op) (ha:ME X Er a fa) (hb:ME X Er b fb) (hk:behindInMarks o b=false:=by first|exact ky _|with_unfolding_all rfl):MT X Er (.Compare a [o] [b] pos) (mB (zf op fa fb)):=let ⟨_,h1,h2⟩:=h;H9 h1 h2 ha hb hk
def zgQ {o o':CmpOp}{op b7:Am}(h:bV X o op) (h':bV X o' b7) (ha:ME X Er a fa) (hb:ME X Er b fb) (hc:ME X Er c fc)
  (hk:lastMarks [o,o'] [b,c]=false:=by with_unfolding_all rfl):ME X Er (.Compare a [o,o'] [b,c] pos) (jI op b7 fa fb fc):=let ⟨_,h1,h2⟩:=h;let ⟨_,h3,h4⟩:=h';H_ h1 h2 h3 h4 ha hb hc hk
def zgR {o o':CmpOp}{op b7:Am}(h:bV X o op) (h':bV X o' b7) (ha:ME X Er a fa) (hb:ME X Er b fb) (hc:ME X Er c fc)
  (hk:lastMarks [o,o'] [b,c]=false:=by with_unfolding_all rfl):MT X Er (.Compare a [o,o'] [b,c] pos) (mB (jI op b7 fa fb fc)):=let ⟨_,h1,h2⟩:=h;let ⟨_,h3,h4⟩:=h';Ia h1 h2 h3 h4 ha hb hc hk
def je {op:Am}(h:kE X op) (ha:ME X Er a fa) (hb:ME X Er b fb) (hs:eM b:=by exact λ_ _=>rfl):ME X Er (.Subscript a b pos) (zf op fa fb):=let ⟨_,h1,h2⟩:=h;Ie h1 h2 ha hb hs
def Ih {o:UnaryOp}{op:PV->Mo PV}(h:qc X o op) (ha:ME X Er a fa):ME X Er (.UnaryOp o a pos) (yJ op fa):=let ⟨_,h1,h2⟩:=h;Ib h1 h2 ha
def Out.ifp {U:Type}{ρ:Ae}{H:Hp}{p:Prop} [Decidable p] {r:Res U}{good:List Addr->Hp->U->aj->Prop}(h:Out K mg ρ H (if p then r else .stuck) good Er):p/\Out K mg ρ H r good Er:=by
 split at h
 ·rename_i hp;exact ⟨hp,h⟩
 ·exact h.elim
def ym {U:Type}(st:aj) (n:Nat) (k:List PV->Res U):Res U:=match st[n]? with
 |some (.lst xs)=>k xs
 |_=>.stuck
def y3 {U:Type}(st:aj) (n:Nat) (k:List Str->List PV->Res U):Res U:=match st[n]? with
 |some (.dic ks xs)=>k ks xs
 |_=>.stuck
def yG {U:Type}(st:aj) (n:Nat) (k:Str->List Str->List PV->Res U):Res U:=match st[n]? with
 |some (.ins c ks xs)=>k c ks xs
 |_=>.stuck
def jB {U:Type}{ρ:Ae}{H:Hp}{st:aj}{n:Nat}{k:List PV->Res U}{good:List Addr->Hp->U->aj->Prop}(h:Out K mg ρ H (ym st n k) good Er):∃xs,st[n]?=some (.lst xs)/\Out K mg ρ H (k xs) good Er:=by
 unfold ym at h
 split at h
 ·rename_i xs e;exact ⟨xs,e,h⟩
 ·exact h.elim
def oK {U:Type}{ρ:Ae}{H:Hp}{st:aj}{n:Nat}{k:List Str->List PV->Res U}{good:List Addr->Hp->U->aj->Prop}(h:Out K mg ρ H (y3 st n k) good Er):∃ks xs,st[n]?=some (.dic ks xs)/\Out K mg ρ H (k ks xs) good Er:=by
 unfold y3 at h
 split at h
 ·rename_i ks xs e;exact ⟨ks,xs,e,h⟩
 ·exact h.elim
def oM {U:Type}{ρ:Ae}{H:Hp}{st:aj}{n:Nat}{k:Str->List Str->List PV->Res U}{good:List Addr->Hp->U->aj->Prop}(h:Out K mg ρ H (yG st n k) good Er):∃c ks xs,st[n]?=some (.ins c ks xs)/\Out K mg ρ H (k c ks xs) good Er:=by
 unfold yG at h
 split at h
 ·rename_i c ks xs e;exact ⟨c,ks,xs,e,h⟩
 ·exact h.elim
def opI (C:Int->Int->Bool) (g:Int->Int->Int):Am
 |.int i,.int j,st=>if C i j=true then .ok (.int (g i j)) st else .stuck
 |_,_,_=>.stuck
def mz {C:Int->Int->Bool}{g:Int->Int->Int}{P:Int->Int->Prop}(hC:∀i j,C i j=true->P i j):dh K mg (rI P λi j=>.int (g i j)) (opI C g):=by
 intro ρ H st x y v w Q E s rx ry h
 cases x with
 |int i =>
  cases y with
  |int j =>
   cases rx;cases ry
   obtain ⟨c,h⟩:=Out.ifp h
   exact ⟨i,j,rfl,rfl,hC i j c,h.now s _ rfl⟩
  |_=>exact h.elim
 |_=>exact h.elim
abbrev c0:Int->Int->Bool:=λ_ _=>true
def Ii {g:Int->Int->V}{f:Value->Value->Sem Value}(h:bb X f (fL g)):bb X f (rI (λ_ _=>True) g):=λpins s σ H x y v u Q I rx ry ⟨i,j,h1,h2,_,q⟩=>h pins s σ H x y v u Q I rx ry ⟨i,j,h1,h2,q⟩
abbrev j4:=opI c0 λi j=>i-j
abbrev cx:Int->Int->Bool:=λi j=>(decide (-(2 ^ 64)<i)&&decide (i<2 ^ 64))||(decide (-(2 ^ 64)<j)&&decide (j<2 ^ 64))
abbrev rk:=opI cx λi j=>i*j
abbrev d8:Int->Int->Bool:=λi j=>decide (0<=j)&&decide (j<=1000000)&&decide (i.natAbs<2 ^ 64)
abbrev jK:=opI d8 λi j=>i ^ j.toNat
abbrev xw:Int->Int->Bool:=λ_ j=>decide (j≠0)
def jL (i j:Int):Int:=if 0<j then i%j else i.fmod j
abbrev yK:=opI xw jL
abbrev rl:Int->Int->Bool:=λ_ j=>decide (j≠0)&&decide (j.natAbs<2 ^ 200)
def wY (i j:Int):Int:=if 0<j then i/j else i.fdiv j
abbrev wZ:=opI rl wY
def Ij (i j:Int):jL i j=i.fmod j:=by
 unfold jL;split
 ·rename_i h;rw [Int.fmod_eq_emod_of_nonneg _ (by omega)]
 ·rfl
def Ik (i j:Int):wY i j=i.fdiv j:=by
 unfold wY;split
 ·rename_i h;rw [Int.fdiv_eq_ediv_of_nonneg _ (by omega)]
 ·rfl
def zat:cS X .Sub j4:=⟨_,Ii Fn,mz λ_ _ _=>trivial⟩
def xx:cS X .Mult rk:=⟨_,Fo,mz λi j h=>by simpa [cx,kx] using h⟩
def wG:cS X .Pow jK:=⟨_,Fq,mz λi j h=>by simp [d8] at h;exact ⟨h.1.1,h.1.2,h.2⟩⟩
def jR:cS X .Mod yK:=⟨_,Fp,by
 have h:(λi j=>V.int (i.fmod j))=λi j=>V.int (jL i j):=by funext i j;rw [Ij]
 rw [h];exact mz λi j h=>by simpa [xw] using h⟩
def Il {y:Int}(h:y.natAbs<2 ^ 200):y.natAbs.log2<9000:=by
 by_cases h0:y.natAbs=0
 ·rw [h0];decide
 ·have:=(Nat.log2_lt h0).mpr h
  omega
def Im:bb X (binaryOp .FloorDiv) (rI (λ_ j=>j≠0/\j.natAbs<2 ^ 200) λi j=>.int (i.fdiv j)):=L2.opI λ_ _ _ _ _ _ _ hc q=>PyProof.Rows.floordiv_int hc.1 q (.inl (PyProof.noPylong_of_log2 (Il hc.2)))
def zcf:cS X .FloorDiv wZ:=⟨_,Im,by
 have h:(λi j=>V.int (i.fdiv j))=λi j=>V.int (wY i j):=by funext i j;rw [Ik]
 rw [h];exact mz λi j h=>by simpa [rl] using h⟩
def mD:PV->Mo PV
 |.int i,st=>.ok (.int (-i)) st
 |_,_=>.stuck
def Io:qc X .USub mD:=⟨_,Ft,by
 intro ρ H st x v Q E s rx h
 cases x with
 |int i=>cases rx;exact ⟨i,rfl,Out.now (x:=PV.int (-i)) h s _ rfl⟩
 |_=>exact h.elim⟩
def zB:Am
 |.int i,.int j,st=>.ok (.int (i+j)) st
 |.str x,.str y,st=>if x.length+y.length<=lim then .ok (.str (x++y)) st else .stuck
 |.tup xs,.tup ys,st=>if xs.length+ys.length<=lim then .ok (.tup (xs++ys)) st else .stuck
 |.ref n,.ref m,st=>ym st n λxs=>ym st m λys=>if xs.length+ys.length<=lim then .ok (.ref st.length) (st++[.lst (xs++ys)]) else .stuck
 |_,_,_=>.stuck
def Ip (K:Frag):R2:=λx y H Q=>∃a b ys,x=.ref a/\y=.ref b/\bK K H a []/\bK K H b ys/\Q (.ref b) H
def Iq:bb X (binaryOp .Add) (Ip X.K):=by
 intro pins s σ H x y v u Q I rx ry h
 obtain ⟨a,b,ys,rfl,rfl,h1,h2,q⟩:=h
 cases rx;cases ry
 obtain ⟨i1,r1,p1,_⟩:=I.tuple h1
 obtain ⟨i2,r2,p2,_⟩:=I.tuple h2
 cases r1
 exact HT.cat_tup0 p1 p2 ⟨.ref b,H,I,rfl,q⟩
def zH:cS X .Add zB:=⟨_,Fm.or (FF.or (Iq.or (GB.or GV))),by
 intro ρ H st x y v w Q E s rx ry h
 cases x with
 |int i =>
  cases y with
  |int j=>cases rx;cases ry;exact .inl ⟨i,j,rfl,rfl,Out.now (x:=PV.int (i+j)) h s _ rfl⟩
  |_=>exact h.elim
 |str i =>
  cases y with
  |str j =>
   cases rx;cases ry
   obtain ⟨c,h⟩:=Out.ifp h
   exact .inr (.inl ⟨i,j,rfl,rfl,jz c,h.now s _ rfl⟩)
  |_=>exact h.elim
 |tup xs =>
  cases y with
  |tup ys =>
   obtain ⟨p,vs,rfl,h1,h2⟩:=rx
   obtain ⟨q,ws,rfl,h3,h4⟩:=ry
   obtain ⟨c,h⟩:=Out.ifp h
   cases xs with
   |nil =>
    cases h2
    exact .inr (.inr (.inl ⟨p,q,ws,rfl,rfl,h1,h3,h.now s _ ⟨q,ws,rfl,h3,h4⟩⟩))
   |cons x0 Pd =>
    refine .inr (.inr (.inr (.inl ⟨p,q,vs,ws,rfl,rfl,h1,h3,?_,?_,λe=>?_,λ_ l hl=>?_⟩)))
    ·obtain ⟨v0,r0,e0,_⟩:=h2;rw [e0];simp
    ·rw [<-h2.len,<-h4.len];exact jz c
    ·subst e
     have:ys=[]:=by have:=h4.len;simpa using this
     subst this
     exact h.now s _ ⟨p,vs,rfl,h1,by simpa using h2⟩
    ·exact h ρ _ (Ext.new hl) (s.new hl) _ (R.tup_of (h2.append h4) hl)
  |_=>exact h.elim
 |ref n =>
  cases y with
  |ref m =>
   obtain ⟨p,rfl,hp⟩:=rx
   obtain ⟨q,rfl,hq⟩:=ry
   obtain ⟨xs,e1,h⟩:=jB h
   obtain ⟨ys,e2,h⟩:=jB h
   obtain ⟨c,h⟩:=Out.ifp h
   obtain ⟨vs,h1,h2⟩:=s.addr e1 hp
   obtain ⟨ws,h3,h4⟩:=s.addr e2 hq
   exact .inr (.inr (.inr (.inr ⟨p,q,vs,ws,rfl,rfl,h1,h3,by rw [<-h2.len,<-h4.len];exact jz c,λl hl=>Out.newList h s (h2.append h4) hl⟩)))
  |_=>exact h.elim
 |_=>exact h.elim⟩
def oN (g:Int->Int->Bool):Am
 |.int i,.int j,st=>.ok (.bl (g i j)) st
 |_,_,_=>.stuck
def rm {g:Int->Int->Bool}:dh K mg (fL λi j=>.bl (g i j)) (oN g):=by
 intro ρ H st x y v w Q E s rx ry h
 cases x with
 |int i =>
  cases y with
  |int j=>cases rx;cases ry;exact ⟨i,j,rfl,rfl,Out.now (x:=PV.bl (g i j)) h s _ rfl⟩
  |_=>exact h.elim
 |_=>exact h.elim
abbrev wH:=oN λi j=>decide (i<j)
abbrev wm:=oN λi j=>decide (i<=j)
abbrev jS:=oN λi j=>decide (j<i)
def zch:bV X .Lt wH:=⟨_,Fv,rm⟩
def xy:bV X .LtE wm:=⟨_,Fw,rm⟩
def zaW:bV X .Gt jS:=⟨_,Fx,rm⟩
def mE:PV->Bool
 |.non=>true
 |_=>false
def rp {ρ:Ae}{H:Hp}{xs:An}{vs:List V}{i:Int}{x:PV}(r:Rs K mg ρ H xs vs) (h:cN xs i=some x):∃v,cN vs i=some v/\R K mg ρ H x v:=by
 unfold cN at h ⊢
 rw [<-r.len]
 cases hj:kR xs.length i with
 |none=>rw [hj] at h;cases h
 |some j =>
  rw [hj] at h
  obtain ⟨v,h1,h2⟩:=r.get (show xs[j]?=some x from h)
  exact ⟨v,h1,h2⟩
def cD:Option PV->Mo PV
 |some x,st=>.ok x st
 |none,_=>.stuck
def rq:Am
 |.tup xs,.int i,st=>cD (cN xs i) st
 |.frl xs,.int i,st=>cD (cN xs i) st
 |.str z,.int i,st=>if z.length<=lim then cD ((cN z.cps.toList i).map λc=>.str ⟨#[c]⟩) st else .stuck
 |.ref n,.int i,st=>ym st n λxs=>cD (cN xs i) st
 |_,_,_=>.stuck
def gI {ρ:Ae}{H:Hp}{o:Option PV}{st:aj}{good}(h:Out K mg ρ H (cD o st) good Er):∃x,o=some x/\Out K mg ρ H (.ok x st) good Er:=by
 cases o with
 |some x=>exact ⟨x,rfl,h⟩
 |none=>exact h.elim
def Ir:kE X rq:=⟨_,GI,by
 intro ρ H st x y v w Q E s rx ry h
 cases x with
 |tup xs =>
  cases y with
  |int i =>
   cases ry
   obtain ⟨p,vs,rfl,h1,h2⟩:=rx
   obtain ⟨x,e,h⟩:=gI h
   obtain ⟨v,h3,h4⟩:=rp h2 e
   exact .inr (.inl ⟨p,vs,i,v,rfl,rfl,h1,h3,h.now s _ h4⟩)
  |_=>exact h.elim
 |frl xs =>
  cases y with
  |int i =>
   cases ry
   obtain ⟨p,vs,rfl,h1,h2⟩:=rx
   obtain ⟨x,e,h⟩:=gI h
   obtain ⟨v,h3,h4⟩:=rp h2 e
   exact .inl ⟨p,vs,i,v,rfl,rfl,h1.sq,h3,h.now s _ h4⟩
  |_=>exact h.elim
 |str z =>
  cases y with
  |int i =>
   cases ry;cases rx
   obtain ⟨c,h⟩:=Out.ifp h
   obtain ⟨x,e,h⟩:=gI h
   cases hc:cN z.cps.toList i with
   |none=>rw [hc] at e;cases e
   |some k =>
    rw [hc] at e
    cases e
    exact .inr (.inr ⟨z,i,k,rfl,rfl,jz c,hc,h.now s _ rfl⟩)
  |_=>exact h.elim
 |ref n =>
  cases y with
  |int i =>
   cases ry
   obtain ⟨p,rfl,hp⟩:=rx
   obtain ⟨xs,e1,h⟩:=jB h
   obtain ⟨vs,h1,h2⟩:=s.addr e1 hp
   obtain ⟨x,e,h⟩:=gI h
   obtain ⟨v,h3,h4⟩:=rp h2 e
   exact .inl ⟨p,vs,i,v,rfl,rfl,a_.of h1,h3,h.now s _ h4⟩
  |_=>exact h.elim
 |_=>exact h.elim⟩
end
mutual
def plain:PV->Bool
 |.non=>true
 |.bl _=>true
 |.int _=>true
 |.str _=>true
 |.tup xs=>bZ xs
 |_=>false
def bZ:List PV->Bool
 |[]=>true
 |x::xs=>plain x&&bZ xs
end
mutual
def dep:PV->Nat
 |.tup xs=>eV xs+1
 |_=>0
def eV:List PV->Nat
 |[]=>0
 |x::xs=>max (dep x) (eV xs)
end
mutual
def bD:PV->PV->Bool
 |.non,.non=>true
 |.bl a,.bl b=>a==b
 |.bl a,.int b=>(if a then 1 else 0)==b
 |.int a,.bl b=>a==(if b then 1 else 0)
 |.int a,.int b=>a==b
 |.str a,.str b=>a==b
 |.tup xs,.tup ys=>d9 xs ys
 |_,_=>false
def d9:List PV->List PV->Bool
 |[],[]=>true
 |x::xs,y::ys=>bD x y&&d9 xs ys
 |_,_=>false
end
section
variable {X:Cx} {K:Frag} {mg:Ab} {ρ:Ae} {pins:Ac} {σ:L2.St} {H:Hp} {s:Shared}
mutual
theorem xA (I:Inv X pins σ H s):∀(x y:PV) {v:V},plain x=true->plain y=true->R X.K mg ρ H x v->R X.K mg ρ H y v->bD x y=true
 |.non,y,v,_,py,rx,ry=>by
  cases rx
  cases y with
  |non=>rfl
  |tup ys=>obtain ⟨_,_,e,_⟩:=ry;cases e
  |bl _=>cases ry
  |int _=>cases ry
  |str _=>cases ry
  |_=>cases py
 |.bl a,y,v,_,py,rx,ry=>by
  cases rx
  cases y with
  |bl b=>cases ry;simp [bD]
  |tup ys=>obtain ⟨_,_,e,_⟩:=ry;cases e
  |non=>cases ry
  |int _=>cases ry
  |str _=>cases ry
  |_=>cases py
 |.int a,y,v,_,py,rx,ry=>by
  cases rx
  cases y with
  |int b=>cases ry;simp [bD]
  |tup ys=>obtain ⟨_,_,e,_⟩:=ry;cases e
  |non=>cases ry
  |bl _=>cases ry
  |str _=>cases ry
  |_=>cases py
 |.str a,y,v,_,py,rx,ry=>by
  cases rx
  cases y with
  |str b=>cases ry;simp [bD]
  |tup ys=>obtain ⟨_,_,e,_⟩:=ry;cases e
  |non=>cases ry
  |bl _=>cases ry
  |int _=>cases ry
  |_=>cases py
 |.tup xs,y,v,px,py,rx,ry=>by
  obtain ⟨a,vs,rfl,h1,h2⟩:=rx
  cases y with
  |tup ys =>
   obtain ⟨b,ws,e,h3,h4⟩:=ry
   cases e
   have:=I.tuple_inj h1 h3
   subst this
   exact gJ I xs ys px py h2 h4
  |non=>cases ry
  |bl _=>cases ry
  |int _=>cases ry
  |str _=>cases ry
  |_=>cases py
 |.ty _,_,_,px,_,_,_=>by cases px
 |.frl _,_,_,px,_,_,_=>by cases px
 |.ref _,_,_,px,_,_,_=>by cases px
 |.fn _,_,_,px,_,_,_=>by cases px
 |.kd _ _,_,_,px,_,_,_=>by cases px
 |.exo _ _ _,_,_,px,_,_,_=>by cases px
theorem gJ (I:Inv X pins σ H s):∀(xs ys:An) {vs:List V},bZ xs=true->bZ ys=true->Rs X.K mg ρ H xs vs->Rs X.K mg ρ H ys vs->d9 xs ys=true
 |[],ys,vs,_,py,rx,ry=>by
  cases rx
  cases ys with
  |nil=>rfl
  |cons y ys=>obtain ⟨_,_,e,_⟩:=ry;cases e
 |x::xs,ys,vs,px,py,rx,ry=>by
  obtain ⟨v,r,rfl,h1,h2⟩:=rx
  cases ys with
  |nil=>cases ry
  |cons y ys =>
   obtain ⟨v',r',e,h3,h4⟩:=ry
   cases e
   simp only [bZ,yC] at px py
   simp only [d9,yC]
   exact ⟨xA I x y px.1 py.1 h1 h3,gJ I xs ys px.2 py.2 h2 h4⟩
end
def dN (xs ys:An) (j:Nat):Bool:=match xs[j]?,ys[j]? with
 |some x,some y=>bD x y
 |_,_=>true
theorem xB:∀(xs ys:An),((List.range (min xs.length ys.length)).all (dN xs ys)&&xs.length==ys.length)=d9 xs ys
 |[],[]=>rfl
 |[],y::ys=>by simp [d9]
 |x::xs,[]=>by simp [d9]
 |x::xs,y::ys=>by
  have ih:=xB xs ys
  have e1:min (x::xs).length (y::ys).length=min xs.length ys.length+1:=by simp only [yA];omega
  have e2:((x::xs).length==(y::ys).length)=(xs.length==ys.length):=by
   rw [Bool.eq_iff_iff];simp
  rw [e1,e2,List.range_succ_eq_map,List.all_cons,List.all_map]
  have e3:(dN (x::xs) (y::ys)∘Nat.succ)=dN xs ys:=by
   funext j
   simp [dN]
  rw [e3,Bool.and_assoc,ih]
  simp [d9,dN]
theorem rA:∀{xs:An}{i:Nat}{x:PV},xs[i]?=some x->dep x<=eV xs
 |[],_,_,e=>by simp at e
 |y::xs,0,x,e=>by simp at e;subst e;simp only [eV];omega
 |y::xs,i+1,x,e=>by
  simp at e
  have:=rA e
  simp only [eV];omega
theorem oO:∀{xs:An}{i:Nat}{x:PV},bZ xs=true->xs[i]?=some x->plain x=true
 |[],_,_,_,e=>by simp at e
 |y::xs,0,x,p,e=>by simp at e;subst e;simp only [bZ,yC] at p;exact p.1
 |y::xs,i+1,x,p,e=>by
  simp at e
  simp only [bZ,yC] at p
  exact oO p.2 e
def xC (A:Around):A.in1.units=A.units+1:=rfl
def rB (I:Inv X pins σ H s):∀(n:Nat) (x y:PV) {v w:V}{u u':Value}(A:Around),dep x<=n->plain x=true->plain y=true->R X.K mg ρ H x v->R X.K mg ρ H y w->RelV v u->RelV w u'->A.units+n<cLine ->
  SeqAt.EqAt A s u u' (bD x y)/\SeqAt.RcAt A s u u' (bD x y)/\SeqAt.RcNeAt A s u u' (!bD x y):=by
 intro n
 induction n with
 |zero =>
  intro x y v w u u' A hd px py rx ry rv rw hu
  cases x with
  |tup xs=>simp only [dep] at hd;omega
  |non =>
   cases rx;cases rv
   cases y with
   |non=>cases ry;cases rw;exact ⟨.same _,.none_none,.none_none⟩
   |bl b=>cases ry;cases rw;exact ⟨.none_bool b,.none_bool b,.none_bool b⟩
   |int b=>cases ry;obtain ⟨t,rfl⟩:=rw;exact ⟨.none_int b t,.none_int b t,.none_int b t⟩
   |str b=>cases ry;obtain ⟨t,rfl⟩:=rw;exact ⟨.none_str b t,.none_str b t,.none_str b t⟩
   |tup ys =>
    obtain ⟨p,ws,rfl,h1,h2⟩:=ry
    cases rw
    obtain ⟨its,_,pl,_⟩:=I.tuple h1
    exact ⟨.none_tuple pl (by omega),.none_tuple pl (by omega),.none_tuple pl (by omega)⟩
   |_=>cases py
  |bl a =>
   cases rx;cases rv
   cases y with
   |non=>cases ry;cases rw;exact ⟨.bool_none a,.bool_none a,.bool_none a⟩
   |bl b=>cases ry;cases rw;exact ⟨.bool_bool a b,.bool_bool a b,.bool_bool a b⟩
   |int b=>cases ry;obtain ⟨t,rfl⟩:=rw;exact ⟨.bool_int a b t,.bool_int a b t,.bool_int a b t⟩
   |str b=>cases ry;obtain ⟨t,rfl⟩:=rw;exact ⟨.bool_str a b t,.bool_str a b t,.bool_str a b t⟩
   |tup ys =>
    obtain ⟨p,ws,rfl,h1,h2⟩:=ry
    cases rw
    obtain ⟨its,_,pl,_⟩:=I.tuple h1
    exact ⟨.bool_tuple a pl (by omega),.bool_tuple a pl (by omega),.bool_tuple a pl (by omega)⟩
   |_=>cases py
  |int a =>
   cases rx;obtain ⟨t0,rfl⟩:=rv
   cases y with
   |non=>cases ry;cases rw;exact ⟨.int_none a t0,.int_none a t0,.int_none a t0⟩
   |bl b=>cases ry;cases rw;exact ⟨.int_bool a t0 b,.int_bool a t0 b,.int_bool a t0 b⟩
   |int b=>cases ry;obtain ⟨t,rfl⟩:=rw;exact ⟨.int_int a t0 b t,.int_int a t0 b t,.int_int a t0 b t⟩
   |str b=>cases ry;obtain ⟨t,rfl⟩:=rw;exact ⟨.int_str a t0 b t,.int_str a t0 b t,.int_str a t0 b t⟩
   |tup ys =>
    obtain ⟨p,ws,rfl,h1,h2⟩:=ry
    cases rw
    obtain ⟨its,_,pl,_⟩:=I.tuple h1
    exact ⟨.int_tuple a t0 pl (by omega),.int_tuple a t0 pl (by omega),.int_tuple a t0 pl (by omega)⟩
   |_=>cases py
  |str a =>
   cases rx;obtain ⟨t0,rfl⟩:=rv
   cases y with
   |non=>cases ry;cases rw;exact ⟨.str_none a t0,.str_none a t0,.str_none a t0⟩
   |bl b=>cases ry;cases rw;exact ⟨.str_bool a t0 b,.str_bool a t0 b,.str_bool a t0 b⟩
   |int b=>cases ry;obtain ⟨t,rfl⟩:=rw;exact ⟨.str_int a t0 b t,.str_int a t0 b t,.str_int a t0 b t⟩
   |str b=>cases ry;obtain ⟨t,rfl⟩:=rw;exact ⟨.str_str a t0 b t,.str_str a t0 b t,.str_str a t0 b t⟩
   |tup ys =>
    obtain ⟨p,ws,rfl,h1,h2⟩:=ry
    cases rw
    obtain ⟨its,_,pl,_⟩:=I.tuple h1
    exact ⟨.str_tuple a t0 pl (by omega),.str_tuple a t0 pl (by omega),.str_tuple a t0 pl (by omega)⟩
   |_=>cases py
  |_=>cases px
 |succ n ih =>
  intro x y v w u u' A hd px py rx ry rv rw hu
  cases x with
  |tup xs =>
   obtain ⟨a,vs,rfl,h1,h2⟩:=id rx
   cases rv
   obtain ⟨its,r1,p1,_⟩:=I.tuple h1
   cases y with
   |non=>cases ry;cases rw;exact ⟨.tuple_none p1 (by omega),.tuple_none p1 (by omega),.tuple_none p1 (by omega)⟩
   |bl b=>cases ry;cases rw;exact ⟨.tuple_bool b p1 (by omega),.tuple_bool b p1 (by omega),.tuple_bool b p1 (by omega)⟩
   |int b=>cases ry;obtain ⟨t,rfl⟩:=rw;exact ⟨.tuple_int b t p1 (by omega),.tuple_int b t p1 (by omega),.tuple_int b t p1 (by omega)⟩
   |str b=>cases ry;obtain ⟨t,rfl⟩:=rw;exact ⟨.tuple_str b t p1 (by omega),.tuple_str b t p1 (by omega),.tuple_str b t p1 (by omega)⟩
   |tup ys =>
    obtain ⟨b,ws,rfl,h3,h4⟩:=id ry
    cases rw
    obtain ⟨c7,r2,p2,_⟩:=I.tuple h3
    have l1:=h2.len
    have l2:=h4.len
    have l3:=r1.length
    have l4:=r2.length
    have item:∀j (g1:j<its.toArray.size) (g2:j<c7.toArray.size),SeqAt.EqAt A.in1 s its.toArray[j] c7.toArray[j] (dN xs ys j):=λj g1 g2=>by
     have k1:j<xs.length:=by rw [l1,l3];simpa using g1
     have k2:j<ys.length:=by rw [l2,l4];simpa using g2
     obtain ⟨v1,e1,Iu⟩:=h2.get (yc k1)
     obtain ⟨v2,e2,Iv⟩:=h4.get (yc k2)
     obtain ⟨u1,f1,Iw⟩:=r1.get e1
     obtain ⟨u2,f2,Iy⟩:=r2.get e2
     have w1:its.toArray[j]=u1:=by
      obtain ⟨_,z⟩:=yN.mp f1
      simpa using z
     have w2:c7.toArray[j]=u2:=by
      obtain ⟨_,z⟩:=yN.mp f2
      simpa using z
     have ej:dN xs ys j=bD xs[j] ys[j]:=by
      unfold dN
      rw [yc k1,yc k2]
     rw [w1,w2,ej]
     have Pe:=rA (yc k1)
     simp only [dep] at hd
     exact (ih xs[j] ys[j] A.in1 (by omega) (oO px (yc k1)) (oO py (yc k2)) Iu Iv Iw Iy (by rw [xC];omega)).1
    have qd:((List.range (min its.toArray.size c7.toArray.size)).all (dN xs ys)&&its.toArray.size==c7.toArray.size)=bD (.tup xs) (.tup ys):=by
     have e:=xB xs ys
     rw [l1,l2,l3,l4] at e
     simpa [bD] using e
    have rc:SeqAt.RcAt A s (.ref a) (.ref b) (bD (.tup xs) (.tup ys)):=by
     rw [<-qd]
     exact SeqAt.RcAt.tuples (show s.heap.IsTuple a its.toArray from p1) (show s.heap.IsTuple b c7.toArray from p2) (by omega) item
    refine ⟨?_,rc,?_⟩
    ·by_cases oP:a=b
     ·subst oP
      rw [xA I (.tup xs) (.tup ys) px py rx ry]
      exact .same _
     ·exact .of_refs oP rc
    ·rw [<-qd]
     exact SeqAt.RcNeAt.tuples (show s.heap.IsTuple a its.toArray from p1) (show s.heap.IsTuple b c7.toArray from p2) (by omega) item
   |_=>cases py
  |non=>exact ih _ y A (jP _) px py rx ry rv rw (by omega)
  |bl a=>exact ih _ y A (jP _) px py rx ry rv rw (by omega)
  |int a=>exact ih _ y A (jP _) px py rx ry rv rw (by omega)
  |str a=>exact ih _ y A (jP _) px py rx ry rv rw (by omega)
  |_=>cases px
def yf:Am:=λx y st=>if plain x=true/\plain y=true/\dep x<=150 then .ok (.bl (bD x y)) st else .stuck
def k6:Am:=λx y st=>if plain x=true/\plain y=true/\dep x<=150 then .ok (.bl (!bD x y)) st else .stuck
def xD (K:Frag) (mg:Ab) (f:Bool->Bool):R2:=λv w H Q=>∃ρ x y,plain x=true/\plain y=true/\dep x<=150/\R K mg ρ H x v/\R K mg ρ H y w/\Q (.bl (f (bD x y))) H
def Iz (hu:X.A.units+200<cLine):bb X (compareOp .Eq) (xD X.K X.mg id):=by
 intro pins s σ H x y v u Q I rx ry h
 obtain ⟨ρ,a,b,pa,pb,hd,ra,rb,q⟩:=h
 exact PySem.EqBoolInt.of_rc (rB I 150 a b X.A hd pa pb ra rb rx ry (by omega)).2.1 ⟨.bl _,H,I,rfl,q⟩
def IA (hu:X.A.units+200<cLine):bb X (compareOp .NotEq) (xD X.K X.mg not):=by
 intro pins s σ H x y v u Q I rx ry h
 obtain ⟨ρ,a,b,pa,pb,hd,ra,rb,q⟩:=h
 exact PySem.EqBoolInt.of_rcne (rB I 150 a b X.A hd pa pb ra rb rx ry (by omega)).2.2 ⟨.bl _,H,I,rfl,q⟩
def yy (hu:X.A.units+200<cLine):bV X .Eq yf:=⟨_,Iz hu,fun ρ H st x y v w Q E s rx ry h=>by
 obtain ⟨⟨p1,p2,p3⟩,h⟩:=Out.ifp h
 exact ⟨ρ,x,y,p1,p2,p3,rx,ry,h.now s _ rfl⟩⟩
def zgX (hu:X.A.units+200<cLine):bV X .NotEq k6:=⟨_,IA hu,fun ρ H st x y v w Q E s rx ry h=>by
 obtain ⟨⟨p1,p2,p3⟩,h⟩:=Out.ifp h
 exact ⟨ρ,x,y,p1,p2,p3,rx,ry,h.now s _ rfl⟩⟩
end
section
variable {X:Cx} {Er:XK} {K:Frag} {mg:Ab} {a b c e:Expr} {es:List Expr} {pos:Pos} {fa:Ai} {fs:Ah}
def IB (K:Frag) (mg:Ab) (Er:XK) (f:za->Mo (Option Int)):TO:=fun σ H Q=>∃env st ρ,a7 K mg ρ H env σ/\aZ K mg ρ H st/\Out K mg ρ H (f env st) (λ_ H' o _=>Q o H') Er
def MO (X:Cx) (Er:XK) (e:Option Expr) (f:za->Mo (Option Int)):Prop:=PO X e (IB X.K X.mg Er f)
def bW:za->Mo (Option Int):=λ_ st=>.ok none st
def rD:PV->Mo (Option Int)
 |.int i,st=>.ok (some i) st
 |_,_=>.stuck
def bA (f:Ai):za->Mo (Option Int):=λenv st=>(f env st).bind rD
def PO.weak {o:Option Expr}{t t':TO}(h:PO X o t) (w:∀σ H Q,t' σ H Q->t σ H Q):PO X o t':=λpins s σ H Q I q=>h pins s σ H Q I (w σ H Q q)
def w8:MO X Er none bW:=PO.weak Gs fun σ H Q ⟨env,st,ρ,re,rs,h⟩=>h.now rs
def jT (h:ME X Er e fa):MO X Er (some e) (bA fa):=PO.weak (Gu h) fun σ H Q ⟨env,st,ρ,re,rs,h⟩=>⟨env,st,ρ,re,rs,h.then λaa H1 x au e1 s1 h1 v rv=>by
 cases x with
 |int i=>cases rv;exact ⟨i,rfl,Out.now (x:=some i) h1 s1⟩
 |_=>exact h1.elim⟩
def cH (xs:An) (lo hi:Option Int):An:=(xs.drop (HT.sIx xs.length 0 lo)).take (HT.sIx xs.length xs.length hi-HT.sIx xs.length 0 lo)
def k7:PV->Option Int->Option Int->Mo PV
 |.tup xs,lo,hi,st=>.ok (.tup (cH xs lo hi)) st
 |.frl xs,lo,hi,st=>.ok (.ref st.length) (st++[.lst (cH xs lo hi)])
 |.ref n,lo,hi,st=>ym st n λxs=>.ok (.ref st.length) (st++[.lst (cH xs lo hi)])
 |.str z,lo,hi,st=>if z.length<=lim then .ok (.str (Txt.slice z lo hi)) st else .stuck
 |_,_,_,_=>.stuck
def Rs.cut {ρ:Ae}{H:Hp}{xs:An}{vs:List V}(r:Rs K mg ρ H xs vs) (lo hi:Option Int):Rs K mg ρ H (cH xs lo hi) (d5 vs lo hi):=by
 unfold cH d5
 rw [r.len]
 exact (r.drop _).take _
def IC (K:Frag):V->Option Int->Option Int->Hp->VK->Prop:=λx lo hi H Q=>∃a xs,x=.ref a/\bK K H a xs/\(HT.sIx xs.length 0 lo=0/\HT.sIx xs.length xs.length hi=xs.length)/\Q (.ref a) H
def ID:fN X (IC X.K):=by
 intro pins s σ H x v vl vu lo hi sl Q I rx hs pl pu h
 obtain ⟨a,xs,rfl,hx,hw,q⟩:=h
 cases rx
 obtain ⟨its,r,ht,hz⟩:=I.tuple hx
 have hlen:its.toArray.size=xs.length:=by rw [yO];exact r.length.symm
 refine ⟨"tuple", _,PyProof.Rows.slot_tuple_getitem.lookup,ht.typeIs,?_⟩
 exact HT.getItem_tuple_all ht hs pl pu (by rw [hlen];exact hw) ⟨.ref a,H,I,rfl,q⟩ (by rw [hlen];exact hz)
def jC (fa:Ai) (fl fu:za->Mo (Option Int)):Ai:=λenv st=>(fa env st).bind λx au=>(fl env au).bind λl aK=>(fu env aK).bind λu ba=>k7 x l u ba
def wn {lo hi:Option Expr}{fl fu:za->Mo (Option Int)}{p2:Pos}(ha:ME X Er a fa) (hl:MO X Er lo fl) (hu:MO X Er hi fu):ME X Er (.Subscript a (.Slice lo hi none p2) pos) (jC fa fl fu) :=
 PE.weak (Gw (Gy.or (ID.or (GN.or Hf))) ha hl hu) fun σ H Q ⟨env,st,ρ,re,rs,h⟩=>⟨env,st,ρ,re,rs,h.then λaa H1 x au e1 s1 h1 v rv=>⟨env,au,aa,re.ext e1,s1,h1.then λai H2 l aK e2 s2 h2 =>
  ⟨env,aK,ai,(re.ext e1).ext e2,s2,h2.then λak H3 u ba e3 s3 h3=>by
  have rv:=R.ext e3 x (R.ext e2 x rv)
  cases x with
  |tup xs =>
   obtain ⟨p,vs,rfl,k1,k2⟩:=rv
   by_cases hw:HT.sIx vs.length 0 l=0/\HT.sIx vs.length vs.length u=vs.length
   ·refine .inr (.inl ⟨p,vs,rfl,k1,hw,Out.now (x:=PV.tup (cH xs l u)) h3 s3 _ ⟨p,vs,rfl,k1,?_⟩⟩)
    have:cH xs l u=xs:=by
     unfold cH
     rw [k2.len,hw.1,hw.2]
     simp [<-k2.len]
    rw [this];exact k2
   ·exact .inl ⟨p,vs,rfl,k1,hw,λq hq=>h3 ak _ (Ext.new hq) (s3.new hq) _ (R.tup_of (k2.cut l u) hq)⟩
  |frl xs =>
   obtain ⟨p,vs,rfl,k1,k2⟩:=rv
   exact .inr (.inr (.inl ⟨p,vs,rfl,k1.sq,λq hq=>Out.newList (xs:=cH xs l u) h3 s3 (k2.cut l u) hq⟩))
  |ref n =>
   obtain ⟨p,rfl,hp⟩:=rv
   obtain ⟨xs,k0,h3⟩:=jB h3
   obtain ⟨vs,k1,k2⟩:=s3.addr k0 hp
   exact .inr (.inr (.inl ⟨p,vs,rfl,a_.of k1,λq hq=>Out.newList (xs:=cH xs l u) h3 s3 (k2.cut l u) hq⟩))
  |str z =>
   cases rv
   obtain ⟨k0,h3⟩:=Out.ifp h3
   exact .inr (.inr (.inr ⟨z,rfl,jz k0,h3.now s3 _ rfl⟩))
  |_=>exact h3.elim⟩⟩⟩
def rE (K:Frag) (mg:Ab) (r:List V->Hp->VK->Prop) (op:Al):Prop:=∀ρ H st xs vs (Q:VK) (E:XK),aZ K mg ρ H st->Rs K mg ρ H xs vs->Out K mg ρ H (op xs st) (gV K mg Q) E->r vs H Q
def bX (X:Cx) (f:Value) (op:Al):Prop:=∃r,bq X f r/\rE X.K X.mg r op
def zo (op:Al) (fs:Ah):Ai:=λenv st=>(fs env st).bind op
def yj {x:Str} {id:String} {op:Al} {p:Pos} (h:bX X (.builtin id) op) (hm:X.mg x=none) (hv:bootBuiltins x=some (.builtin id)) (ha:MA X Er (e::es) fs) (hg:Gl X x:=by rfl) (hn:x ≠ "__name__" := by decide) (bC:(x==("__debug__" : Str))=false:=by decide)
  (he:starEach (e::es) X.env=(false,eval e X.env)::starEach es X.env:=by rfl) (bj:(backTo pos (starEach es X.env)).any (·.1)=false:=by rfl):ME X Er (.Call (.Name x p) (e::es) [] pos) (zo op fs):=by
 obtain ⟨r,h1,h2⟩:=h
 exact PE.weak (Gh h1 hg hm hv ha hn bC he bj) fun σ H Q ⟨env,st,ρ,re,rs,h⟩=>⟨env,st,ρ,re,rs,h.then λaa H1 xs au e1 s1 k vs rv=>h2 aa H1 au xs vs Q Er s1 rv k⟩
def wo {x:Str} {T:String} {op:Al} {p:Pos} (h:bX X (.type T) op) (hm:X.mg x=none) (hv:bootBuiltins x=some (.type T)) (ha:MA X Er (e::es) fs) (hg:Gl X x:=by rfl) (hn:x ≠ "__name__" := by decide) (bC:(x==("__debug__" : Str))=false:=by decide)
  (he:starEach (e::es) X.env=(false,eval e X.env)::starEach es X.env:=by rfl) (bj:(backTo pos (starEach es X.env)).any (·.1)=false:=by rfl):ME X Er (.Call (.Name x p) (e::es) [] pos) (zo op fs):=by
 obtain ⟨r,h1,h2⟩:=h
 exact PE.weak (Gi h1 hg hm hv ha hn bC he bj) fun σ H Q ⟨env,st,ρ,re,rs,h⟩=>⟨env,st,ρ,re,rs,h.then λaa H1 xs au e1 s1 k vs rv=>h2 aa H1 au xs vs Q Er s1 rv k⟩
def jU {x:Str} {n:String} (hm:X.mg x=none) (hv:bootBuiltins x=some (.type n)) (hg:Gl X x:=by rfl) (hn:x ≠ "__name__" := by decide) (hd:(x==("__debug__" : Str))=false:=by decide):ME X Er (.Name x pos) (mC (.ty n)) :=
 kZ (Ey (v:=.ty n) hg hm hv rfl hn hd) λ_ _=>rfl
def Rs.one {ρ:Ae}{H:Hp}{x:PV}{vs:List V}(r:Rs K mg ρ H [x] vs):∃v,vs=[v]/\R K mg ρ H x v:=by
 obtain ⟨v,r',rfl,h,h'⟩:=r
 cases h'
 exact ⟨v,rfl,h⟩
def Rs.two {ρ:Ae}{H:Hp}{x y:PV}{vs:List V}(r:Rs K mg ρ H [x,y] vs):∃v w,vs=[v,w]/\R K mg ρ H x v/\R K mg ρ H y w:=by
 obtain ⟨v,r',rfl,h,h'⟩:=r
 obtain ⟨w,rfl,h2⟩:=Rs.one h'
 exact ⟨v,w,rfl,h,h2⟩
def oQ:Al
 |[.tup xs],st=>.ok (.int xs.length) st
 |[.frl xs],st=>.ok (.int xs.length) st
 |[.str z],st=>if z.length<=lim then .ok (.int z.length) st else .stuck
 |[.ref n],st=>ym st n λxs=>.ok (.int xs.length) st
 |_,_=>.stuck
def IE:bX X (.builtin "len") oQ:=⟨_,FH,fun ρ H st xs vs Q E s r h=>by
 match xs,r,h with
 |[.tup ys],r,h =>
  obtain ⟨v,rfl,p,ws,rfl,h1,h2⟩:=Rs.one r
  exact ⟨_,ws.length,rfl,.inr ⟨ws,h1,rfl⟩,by rw [<-h2.len];exact Out.now (x:=PV.int ys.length) h s _ rfl⟩
 |[.frl ys],r,h =>
  obtain ⟨v,rfl,p,ws,rfl,h1,h2⟩:=Rs.one r
  exact ⟨_,ws.length,rfl,.inl ⟨ws,h1.sq,rfl⟩,by rw [<-h2.len];exact Out.now (x:=PV.int ys.length) h s _ rfl⟩
 |[.str z],r,h =>
  obtain ⟨v,rfl,rfl⟩:=Rs.one r
  obtain ⟨c,h⟩:=Out.ifp h
  exact ⟨_,z.length,rfl,⟨jz c,rfl⟩,h.now s _ rfl⟩
 |[.ref n],r,h =>
  obtain ⟨v,rfl,p,rfl,hp⟩:=Rs.one r
  obtain ⟨ys,e,h⟩:=jB h
  obtain ⟨ws,h1,h2⟩:=s.addr e hp
  exact ⟨_,ws.length,rfl,.inl ⟨ws,a_.of h1,rfl⟩,by rw [<-h2.len];exact h.now s _ rfl⟩
 |[],r,h=>exact h.elim
 |[.non],r,h=>exact h.elim
 |[.bl _],r,h=>exact h.elim
 |[.int _],r,h=>exact h.elim
 |[.ty _],r,h=>exact h.elim
 |[.fn _],r,h=>exact h.elim
 |[.kd _ _],r,h=>exact h.elim
 |[.exo _ _ _],r,h=>exact h.elim
 |x::y::r',r,h=>cases x<;>exact h.elim⟩
def oR:Al
 |[.tup xs],st=>.ok (.tup xs) st
 |[.frl xs],st=>.ok (.tup xs) st
 |[.ref n],st=>ym st n λxs=>.ok (.tup xs) st
 |_,_=>.stuck
def xE:bX X (.type "tuple") oR:=⟨_,GO,fun ρ H st xs vs Q E s r h=>by
 match xs,r,h with
 |[.tup ys],r,h =>
  obtain ⟨v,rfl,p,ws,rfl,h1,h2⟩:=Rs.one r
  exact ⟨p,ws,rfl,.inr ⟨h1,Out.now (x:=PV.tup ys) h s _ ⟨p,ws,rfl,h1,h2⟩⟩⟩
 |[.frl ys],r,h =>
  obtain ⟨v,rfl,p,ws,rfl,h1,h2⟩:=Rs.one r
  exact ⟨p,ws,rfl,.inl ⟨h1.sq,λl hl=>h ρ _ (Ext.new hl) (s.new hl) _ (R.tup_of h2 hl)⟩⟩
 |[.ref n],r,h =>
  obtain ⟨v,rfl,p,rfl,hp⟩:=Rs.one r
  obtain ⟨ys,e,h⟩:=jB h
  obtain ⟨ws,h1,h2⟩:=s.addr e hp
  exact ⟨p,ws,rfl,.inl ⟨a_.of h1,λl hl=>h ρ _ (Ext.new hl) (s.new hl) _ (R.tup_of h2 hl)⟩⟩
 |[],r,h=>exact h.elim
 |[.non],r,h=>exact h.elim
 |[.bl _],r,h=>exact h.elim
 |[.int _],r,h=>exact h.elim
 |[.str _],r,h=>exact h.elim
 |[.ty _],r,h=>exact h.elim
 |[.fn _],r,h=>exact h.elim
 |[.kd _ _],r,h=>exact h.elim
 |[.exo _ _ _],r,h=>exact h.elim
 |x::y::r',r,h=>cases x<;>exact h.elim⟩
def bG (T n:String):Option Bool :=
 if T = "int" then (if n = "int" then some true else if n = "bool" \/ n = "str" \/ n = "tuple" \/ n = "dict" \/ n = "list" then some false else none)
 else if T = "bool" then (if n = "int" \/ n = "bool" then some true else if n = "str" \/ n = "tuple" \/ n = "dict" \/ n = "list" then some false else none)
 else if T = "str" then (if n = "str" then some true else if n = "int" \/ n = "bool" \/ n = "tuple" \/ n = "dict" \/ n = "list" then some false else none)
 else if T = "tuple" then (if n = "tuple" then some true else if n = "int" \/ n = "bool" \/ n = "str" \/ n = "dict" \/ n = "list" then some false else none)
 else if T = "list" then (if n = "list" then some true else if n = "int" \/ n = "bool" \/ n = "str" \/ n = "dict" \/ n = "tuple" then some false else none)
 else if T = "dict" then (if n = "dict" then some true else if n = "int" \/ n = "bool" \/ n = "str" \/ n = "list" \/ n = "tuple" then some false else none)
 else if T = "NoneType" then (if n = "int" \/ n = "bool" \/ n = "str" \/ n = "list" \/ n = "tuple" \/ n = "dict" then some false else none)
 else none
def xF (K:Frag) {T n:String}{b:Bool}(h:bG T n=some b):PySem.W.kitOne K (.type T) (.type n)=some b:=by
 unfold bG at h
 split at h
 ·rename_i e;subst e
  split at h
  ·rename_i e;subst e;cases h;first|rfl|kernel_rfl
  ·split at h
   ·rename_i e;cases h;rcases e with e|e|e|e|e<;>subst e<;>first|rfl|kernel_rfl
   ·cases h
 ·split at h
  ·rename_i e;subst e
   split at h
   ·rename_i e;cases h;rcases e with e|e<;>subst e<;>first|rfl|kernel_rfl
   ·split at h
    ·rename_i e;cases h;rcases e with e|e|e|e<;>subst e<;>first|rfl|kernel_rfl
    ·cases h
  ·split at h
   ·rename_i e;subst e
    split at h
    ·rename_i e;subst e;cases h;first|rfl|kernel_rfl
    ·split at h
     ·rename_i e;cases h;rcases e with e|e|e|e|e<;>subst e<;>first|rfl|kernel_rfl
     ·cases h
   ·split at h
    ·rename_i e;subst e
     split at h
     ·rename_i e;subst e;cases h;first|rfl|kernel_rfl
     ·split at h
      ·rename_i e;cases h;rcases e with e|e|e|e|e<;>subst e<;>first|rfl|kernel_rfl
      ·cases h
    ·split at h
     ·rename_i e;subst e
      split at h
      ·rename_i e;subst e;cases h;first|rfl|kernel_rfl
      ·split at h
       ·rename_i e;cases h;rcases e with e|e|e|e|e<;>subst e<;>first|rfl|kernel_rfl
       ·cases h
     ·split at h
      ·rename_i e;subst e
       split at h
       ·rename_i e;subst e;cases h;first|rfl|kernel_rfl
       ·split at h
        ·rename_i e;cases h;rcases e with e|e|e|e|e<;>subst e<;>first|rfl|kernel_rfl
        ·cases h
      ·split at h
       ·rename_i e;subst e
        split at h
        ·rename_i e;cases h;rcases e with e|e|e|e|e|e<;>subst e<;>first|rfl|kernel_rfl
        ·cases h
       ·cases h
end
def dZ (K:Frag) (mg:Ab) (m:Al):Sp:=λvs H Q E=>∃xs st ρ,Rs K mg ρ H xs vs/\aZ K mg ρ H st/\Out K mg ρ H (m xs st) (gV K mg Q) E
section
variable (P:Program) (w:World) (K:Frag) (mg:Ab) (base:Heap)
def bH (x:Str) (k:Nat) (m:Al):Prop:=∃f fd ps,mg x=some (.ref f)/\keepIn K (.ref f)=true/\Binds K fd ps []/\bf P w K mg base (bU P w) k f fd ps (dZ K mg m)
def bP (c name:Str) (k:Nat) (m:Al):Prop:=∃C f fd ps,mg c=some (.ref C)/\du K C/\Meth K C name f/\Binds K fd ps []/\bf P w K mg base (bU P w) k f fd ps (dZ K mg m)
def rF (c:Str) (k:Nat) (m:Al):Prop:=∃C f fd ps,mg c=some (.ref C)/\Mk K C f/\Binds K fd ps []/\bf P w K mg base (bU P w) k f fd ps (dZ K mg m)
end
section
variable {X:Cx} {Er:XK} {K:Frag} {mg:Ab} {a b c e o:Expr} {es:List Expr} {pos p apos:Pos} {fa fc fo:Ai} {fs:Ah} {k:Nat} {x:Str} {m:Al}
def zS (C:bH X.prog X.w X.K X.mg X.base x k m) (hr:aY k X.A) (ht:wj X Er) (ha:MA X Er (e::es) fs) (hg:Gl X x:=by rfl) (bC:(x==("__debug__" : Str))=false:=by decide)
  (he:starEach (e::es) X.env=(false,eval e X.env)::starEach es X.env:=by rfl) (bj:(backTo pos (starEach es X.env)).any (·.1)=false:=by rfl):ME X Er (.Call (.Name x p) (e::es) [] pos) (zo m fs):=by
 obtain ⟨f,fd,ps,hm,hk,hb,F⟩:=C
 exact PE.weak (Gd F hr hg hm hk hb .nil (oG ht) ha bC he bj) fun σ H Q ⟨env,st,ρ,re,rs,h⟩=>⟨env,st,ρ,re,rs,h.then λaa H1 xs au e1 s1 k vs rv=>by
  show dZ X.K X.mg m (vs++[]) H1 Q Er
  rw [List.append_nil]
  exact ⟨xs,au,aa,rv,s1,k⟩⟩
theorem iG {ρ:Ae}{H:Hp}{f:Str}:∀{ks:Ad}{xs:An}{vs:List V}{x:PV},Rs K mg ρ H xs vs->(ks.zip xs).lookup f=some x->∃v,(ks.zip vs).lookup f=some v/\R K mg ρ H x v
 |[],_,_,_,_,h=>by simp at h
 |k::ks,[],_,_,_,h=>by simp at h
 |k::ks,y::xs,_,x,r,h=>by
  obtain ⟨v,r',rfl,h1,h2⟩:=r
  simp only [List.zip_cons_cons,wU] at h ⊢
  split at h
  ·cases h;exact ⟨v,rfl,h1⟩
  ·exact iG h2 h
theorem oS {f:Str}{β:Type}:∀{ks:Ad}{vs:List β},f∉ks->(ks.zip vs).lookup f=none
 |[],_,_=>by simp
 |k::ks,[],_=>by simp
 |k::ks,v::vs,h=>by
  simp only [yn,not_or] at h
  simp only [List.zip_cons_cons,wU]
  have:(f==k)=false:=by simpa using h.1
  rw [this]
  exact oS h.2
def xG (X:Cx) (name:Str) (k:Nat) (E:XK) (ta:TE) (t:TA):TE:=fun σ H Q=>ta σ H λx H1=>∃a C dx fs f fd ps sp,x=.ref a/\H1 a=some (.ins C dx fs)/\fs.lookup name=none/\du X.K C/\Meth X.K C name f/\Binds X.K fd ps []/\bf X.prog X.w X.K X.mg X.base (bU X.prog X.w) k f fd ps sp /\
 t σ H1 λvs H2=>sp (x::vs) H2 Q E
def IF {pl:Sem Bool}{name:Str}{ta:TE}{t:TA}{E:XK}(he:PE X o ta) (hr:aY k X.A) (hx:Passes (bU X.prog X.w) X E) (ha:PA X (e::es) t)
  (cF:starEach (e::es) X.env=(false,eval e X.env)::starEach es X.env:=by rfl) (bj:(backTo pos (starEach es X.env)).any (·.1)=false:=by rfl)
  (ht:eval (.Call (.Attribute o name apos) (e::es) [] pos) X.env=(do
   let ov <-eval o X.env
   standAt apos.atName
   let (f,first) <-holding [ov] (getMethod ov name pl)
   callWith pos f first (backTo pos (starEach (e::es) X.env)) (backToKw pos (keywordEach [] X.env))):=by rfl) :
  PE X (.Call (.Attribute o name apos) (e::es) [] pos) (xG X name k E ta t):=by
 intro pins s σ H Q I h
 refine PySem.W.methodCall_KW (pl:=pl) (aO (he pins s σ H _ I h) λu s1 gg=>?_) ht
 obtain ⟨x,H1,I1,rx,a,C,dx,fs,f,fd,ps,sp,ex,ea,l,c,hm,hb,F,q⟩:=gg
 subst ex
 obtain rfl:u=Value.ref a:=rx
 refine vc I1 ea c hm l ?_
 refine PySem.W.callWith_K (first:=[.ref a]) (h₀:=X.base) I.ok.mod.kin hm.kp (aO (ha pos pins s1 σ H1 _ I1 q) λus s2 ⟨vs,H2,I2,r,q2⟩=>⟨I2.kIn,?_⟩) cF bj
 exact qA (us:=.ref a::us) (vs:=.ref a::vs) F hr hb .nil hx I2 (.cons rfl r) (by rw [List.append_nil];exact q2)
def IG {pl:Sem Bool}{name:Str}{ta:TE}{E:XK}(he:PE X o ta) (hr:aY k X.A) (hx:Passes (bU X.prog X.w) X E)
  (ht:eval (.Call (.Attribute o name apos) [] [] pos) X.env=(do
   let ov <-eval o X.env
   standAt apos.atName
   let (f,first) <-holding [ov] (getMethod ov name pl)
   callWith pos f first (backTo pos (starEach [] X.env)) (backToKw pos (keywordEach [] X.env))):=by rfl) :
  PE X (.Call (.Attribute o name apos) [] [] pos) (xG X name k E ta vf):=by
 intro pins s σ H Q I h
 refine PySem.W.methodCall_KW (pl:=pl) (aO (he pins s σ H _ I h) λu s1 gg=>?_) ht
 obtain ⟨x,H1,I1,rx,a,C,dx,fs,f,fd,ps,sp,ex,ea,l,c,hm,hb,F,q⟩:=gg
 subst ex
 obtain rfl:u=Value.ref a:=rx
 refine vc I1 ea c hm l ?_
 exact PySem.W.callWith_K0 (first:=[.ref a]) I1.kIn hm.kp (qA (us:=[.ref a]) (vs:=[.ref a]) F hr hb .nil hx I1 (.cons rfl .nil) (by rw [List.append_nil];exact q))
def kF (name:Str) (tab:Str->Option (Al)) (o:PV) (st:aj) (k:Nat->(Al)->Res PV):Res PV:=match o with
 | .ref n=>yG st n λc ks _=>if name∈ks then .stuck else match tab c with
  |some m=>k n m
  |none=>.stuck
 |_=>.stuck
def yk (name:Str) (tab:Str->Option (Al)) (fo:Ai) (fs:Ah):Ai:=λenv st=>(fo env st).bind λo au=>kF name tab o au λn m=>(fs env au).bind λys aK=>m (.ref n::ys) aK
def xH {name:Str}{tab:Str->Option (Al)}{o:PV}{st:aj}{kk:Nat->(Al)->Res PV}{ρ:Ae}{H:Hp}{good}(h:Out K mg ρ H (kF name tab o st kk) good Er) :
  ∃n c ks xs m,o=.ref n/\st[n]?=some (.ins c ks xs)/\name∉ks/\tab c=some m/\Out K mg ρ H (kk n m) good Er:=by
 cases o with
 |ref n =>
  obtain ⟨c,ks,xs,e,h⟩:=oM h
  split at h
  ·exact h.elim
  ·rename_i hn
   cases hc:tab c with
   |none=>rw [hc] at h;exact h.elim
   |some m=>rw [hc] at h;exact ⟨n,c,ks,xs,m,rfl,e,hn,hc,h⟩
 |_=>exact h.elim
def jM {pl:Sem Bool}{name:Str}{tab:Str->Option (Al)}(hT:∀c m,tab c=some m->bP X.prog X.w X.K X.mg X.base c name k m) (ho:ME X Er o fo) (hr:aY k X.A) (ht:wj X Er) (ha:MA X Er (e::es) fs)
  (cF:starEach (e::es) X.env=(false,eval e X.env)::starEach es X.env:=by rfl) (bj:(backTo pos (starEach es X.env)).any (·.1)=false:=by rfl)
  (rG:eval (.Call (.Attribute o name apos) (e::es) [] pos) X.env=(do
   let ov <-eval o X.env
   standAt apos.atName
   let (f,first) <-holding [ov] (getMethod ov name pl)
   callWith pos f first (backTo pos (starEach (e::es) X.env)) (backToKw pos (keywordEach [] X.env))):=by rfl) :
  ME X Er (.Call (.Attribute o name apos) (e::es) [] pos) (yk name tab fo fs) :=
 PE.weak (IF (pl:=pl) ho hr (oG ht) ha cF bj rG) fun σ H Q ⟨env,st,ρ,re,rs,h⟩=>⟨env,st,ρ,re,rs,h.then λaa H1 x au e1 s1 h1 v rv=>by
  obtain ⟨n,c,ks,xs,m,rfl,hn,hk,hc,h1⟩:=xH h1
  obtain ⟨C,f,fd,ps,hC,cl,hm,hb,F⟩:=hT c m hc
  obtain ⟨p,rfl,hp⟩:=rv
  obtain ⟨C',dx,vs,hC',hH,hR,hl⟩:=s1.addr hn hp
  rw [hC] at hC'
  cases hC'
  exact ⟨p,C,dx,_,f,fd,ps,_,rfl,hH,oS hk,cl,hm,hb,F,env,au,aa,re.ext e1,s1,Out.then h1 λai H2 ys aK e2 s2 h2 ws rws=>⟨.ref n::ys,aK,ai,⟨_,_,rfl,⟨p,rfl,e2.get hp⟩,rws⟩,s2,h2⟩⟩⟩
def wI {pl:Sem Bool}{name:Str}{tab:Str->Option (Al)}(hT:∀c m,tab c=some m->bP X.prog X.w X.K X.mg X.base c name k m) (ho:ME X Er o fo) (hr:aY k X.A) (ht:wj X Er)
  (rG:eval (.Call (.Attribute o name apos) [] [] pos) X.env=(do
   let ov <-eval o X.env
   standAt apos.atName
   let (f,first) <-holding [ov] (getMethod ov name pl)
   callWith pos f first (backTo pos (starEach [] X.env)) (backToKw pos (keywordEach [] X.env))):=by rfl) :
  ME X Er (.Call (.Attribute o name apos) [] [] pos) (yk name tab fo zg) :=
 PE.weak (IG (pl:=pl) ho hr (oG ht) rG) fun σ H Q ⟨env,st,ρ,re,rs,h⟩=>⟨env,st,ρ,re,rs,h.then λaa H1 x au e1 s1 h1 v rv=>by
  obtain ⟨n,c,ks,xs,m,rfl,hn,hk,hc,h1⟩:=xH h1
  obtain ⟨C,f,fd,ps,hC,cl,hm,hb,F⟩:=hT c m hc
  obtain ⟨p,rfl,hp⟩:=rv
  obtain ⟨C',dx,vs,hC',hH,hR,hl⟩:=s1.addr hn hp
  rw [hC] at hC'
  cases hC'
  exact ⟨p,C,dx,_,f,fd,ps,_,rfl,hH,oS hk,cl,hm,hb,F,⟨[.ref n],au,aa,⟨_,_,rfl,⟨p,rfl,hp⟩,rfl⟩,s1,h1⟩⟩⟩
def gK (c:Str) (m:Al) (ys:An):Mo PV:=λst=>(m (.ref st.length::ys) (st++[.ins c [] []])).bind λr aK=>if mE r=true then .ok (.ref st.length) aK else .stuck
def IH {x:PV}(h:mE x=true):x=.non:=by cases x<;>first|rfl|cases h
def II {cn:Str}{C f:Addr}{ρ:Ae}{H:Hp}{st:aj}{ys:An}{vs:List V}{Q:VK}(hC:mg cn=some (.ref C)) (s:aZ K mg ρ H st) (r:Rs K mg ρ H ys vs) (h:Out K mg ρ H (gK cn m ys st) (gV K mg Q) Er) :
  ∀x dx,H x=none->H dx=none->dx≠x->dZ K mg m (.ref x::vs) (upd (upd H dx (.own x)) x (.ins C dx [])) (λv H2=>v=.non/\Q (.ref x) H2) Er:=λx dx hx fz ne=>by
 have xI:upd H dx (.own x) x=none:=by rw [zR (y0 ne)];exact hx
 have s1:=s.new (o:=.own x) fz
 have e1:Ext ρ H ρ (upd H dx (.own x)):=Ext.new fz
 have e2:Ext ρ H (ρ++[x]) (upd (upd H dx (.own x)) x (.ins C dx [])):=e1.trans (Ext.push xI)
 have s2:aZ K mg (ρ++[x]) (upd (upd H dx (.own x)) x (.ins C dx [])) (st++[.ins cn [] []]):=s1.push xI ⟨C,dx,[],hC,yD,rfl,rfl⟩
 have gx:(ρ++[x])[st.length]?=some x:=by rw [<-s.len];simp
 refine ⟨.ref st.length::ys,_,ρ++[x],⟨_,_,rfl,⟨x,rfl,gx⟩,Rs.ext e2 ys r⟩,s2,Out.then (Out.ext h e2) λak H3 r3 ba e3 s3 h3 v rv=>?_⟩
 obtain ⟨hn,h3⟩:=Out.ifp h3
 obtain rfl:=IH hn
 exact ⟨rv,h3.now s3 _ ⟨x,rfl,e3.get gx⟩⟩
def IJ {cn:Str} (C:rF X.prog X.w X.K X.mg X.base cn k m) (hr:aY (k+1) X.A) (ht:wj X Er) (ha:MA X Er (e::es) fs) (hg:Gl X cn:=by rfl) (bC:(cn==("__debug__" : Str))=false:=by decide)
  (he:starEach (e::es) X.env=(false,eval e X.env)::starEach es X.env:=by rfl) (bj:(backTo pos (starEach es X.env)).any (·.1)=false:=by rfl):ME X Er (.Call (.Name cn p) (e::es) [] pos) (zo (gK cn m) fs):=by
 obtain ⟨C,f,fd,ps,hm,M,hb,F⟩:=C
 exact PE.weak (Gf M F hr hg hm hb .nil (oG ht) ha bC he bj) fun σ H Q ⟨env,st,ρ,re,rs,h⟩=>⟨env,st,ρ,re,rs,h.then λaa H1 xs au e1 s1 k vs rv x dx hx fz ne=>by
  rw [List.append_nil]
  exact II (f:=f) hm s1 rv k x dx hx fz ne⟩
def bo (f:Str) (ins exc:Str->Bool):PV->Mo PV
 |.ref n,st=>yG st n λc ks xs=>if ins c=true then cD ((ks.zip xs).lookup f) st else .stuck
 |.exo c ks xs,st=>if exc c=true then cD ((ks.zip xs).lookup f) st else .stuck
 |_,_=>.stuck
structure FldF (K:Frag) (mg:Ab) (f:Str) (ins exc:Str->Bool):Prop where
 i:∀c,ins c=true->∃C,mg c=some (.ref C)/\du K C/\b8 K C f
 x:∀c,exc c=true->∃C,mg c=some (.ref C)/\fH K C/\hasDictIn K C=true/\findIn K (.ref C) f=some none
def IK (K:Frag) (ta:TE) (f:Str):TE:=fun σ H Q=>ta σ H λx H1=>(∃a C dx fs v,x=.ref a/\H1 a=some (.ins C dx fs)/\du K C/\b8 K C f/\fs.lookup f=some v/\Q v H1) \/
 ∃a C d fs v,x=.ref a/\H1 a=some (bS C (some d) a)/\H1 d=some (.xd fs)/\fH K C/\hasDictIn K C=true/\findIn K (.ref C) f=some none/\fs.lookup f=some v/\Q v H1
def IL {f:Str}{ta:TE}(he:PE X e ta) (hb:attributeBase e f X.env (eval e X.env)=eval e X.env):PE X (.Attribute e f pos) (IK X.K ta f):=by
 intro pins s σ H Q I h
 refine FQ hb (aO (he pins s σ H _ I h) λu s1 ⟨x,H1,I1,rx,h1⟩=>?_)
 rcases h1 with ⟨a,C,dx,fs,v,ex,ea,c,n,l,q⟩|⟨a,C,dx,fs,v,ex,ea,ed,g,hh,no,l,q⟩
 ·subst ex
  obtain rfl:u=Value.ref a:=rx
  exact vb I1 ea c n l λu' s2 I2 ru=>⟨v,H1,I2,ru,q⟩
 ·subst ex
  obtain rfl:u=Value.ref a:=rx
  exact HS I1 ea ed g hh no l λu' s2 I2 ru=>⟨v,H1,I2,ru,q⟩
def wq {f:Str}{ins exc:Str->Bool}(F:FldF X.K X.mg f ins exc) (he:ME X Er e fa) (hb:attributeBase e f X.env (eval e X.env)=eval e X.env:=by rfl):ME X Er (.Attribute e f pos) (yJ (bo f ins exc) fa) :=
 PE.weak (IL he hb) fun σ H Q ⟨env,st,ρ,re,rs,h⟩=>⟨env,st,ρ,re,rs,h.then λaa H1 x au e1 s1 h1 v rv=>by
  cases x with
  |ref n =>
   obtain ⟨c,ks,xs,hn,h1⟩:=oM h1
   obtain ⟨hc,h1⟩:=Out.ifp h1
   obtain ⟨y,hy,h1⟩:=gI h1
   obtain ⟨p,rfl,hp⟩:=rv
   obtain ⟨C',dx,vs,hC',hH,hR,hl⟩:=s1.addr hn hp
   obtain ⟨C,hC,cl,na⟩:=F.i c hc
   rw [hC] at hC'
   cases hC'
   obtain ⟨v,hv,rv⟩:=iG hR hy
   exact .inl ⟨p,_,dx,_,v,rfl,hH,cl,na,hv,h1.now s1 _ rv⟩
  |exo c ks xs =>
   obtain ⟨hc,h1⟩:=Out.ifp h1
   obtain ⟨y,hy,h1⟩:=gI h1
   obtain ⟨a,C',rfl,hC',⟨hk,_⟩|⟨d,vs,hH,hd,hR,hl⟩⟩:=rv
   ·rw [hk] at hy;cases hy
   obtain ⟨C,hC,g,hh,no⟩:=F.x c hc
   rw [hC] at hC'
   cases hC'
   obtain ⟨v,hv,rv⟩:=iG hR hy
   exact .inr ⟨a,_,d,_,v,rfl,hH,hd,g,hh,no,hv,h1.now s1 _ rv⟩
  |_=>exact h1.elim⟩
def iH:Option SO->Option (String ⊕ (Bool×Str))
 |some (.lst _)=>some (.inl "list")
 |some (.dic _ _)=>some (.inl "dict")
 |some (.ins c _ _)=>some (.inr (false,c))
 |some (.fdi _ _)=>none
 |some (.dit _ _)=>none
 |none=>none
def gL (st:aj):PV->Option (String ⊕ (Bool×Str))
 |.non=>some (.inl "NoneType")
 |.bl _=>some (.inl "bool")
 |.int _=>some (.inl "int")
 |.str _=>some (.inl "str")
 |.tup _=>some (.inl "tuple")
 |.ref n=>iH st[n]?
 |.exo c _ _=>some (.inr (true,c))
 |_=>none
def cy (o:Option Bool):Mo PV:=λst=>match o with
 |some b=>.ok (.bl b) st
 |none=>.stuck
def mF {ρ:Ae}{H:Hp}{o:Option Bool}{st:aj}{good}(h:Out K mg ρ H (cy o st) good Er):∃b,o=some b/\Out K mg ρ H (.ok (.bl b) st) good Er:=by
 cases o with
 |some x=>exact ⟨x,rfl,h⟩
 |none=>exact h.elim
structure IsT where
 isx:Str->Bool
 sub:Str->Str->Option Bool
 subT:Str->String->Option Bool
 tyC:String->Str->Option Bool
def qe (t:IsT) (st:aj):PV->Option (String ⊕ (Bool×Str))->Mo PV
 |.ty n,some (.inl T),st=>cy (bG T n) st
 |.ty n,some (.inr (f,c)),st=>if t.isx c=f then cy (t.subT c n) st else .stuck
 |.fn B,some (.inl T),st=>cy (t.tyC T B) st
 |.fn B,some (.inr (f,c)),st=>if t.isx c=f then cy (t.sub c B) st else .stuck
 |_,_,_=>.stuck
def jN (t:IsT):Al
 |[x,y],st=>qe t st y (gL st x) st
 |_,_=>.stuck
structure qf (K:Frag) (C:Addr):Prop where
 cl:du K C
 ha:findIn K (.ref C) "__class__" = some (some (.builtin "object.__class__"))
 hn:specialIn K (.builtin "object.__class__") "__get__" = some (some (.builtin "getset_descriptor.__get__"))
 tk:takesIn K (.builtin "object.__class__")=some true
 hm:mroIn K C (.type "object")=some true
structure IsF (K:Frag) (mg:Ab) (t:IsT):Prop where
 s:∀c B b,t.sub c B=some b->∃C D,mg c=some (.ref C)/\mg B=some (.ref D)/\kitOne K (.ref C) (.ref D)=some b
 tt:∀c n b,t.subT c n=some b->∃C,mg c=some (.ref C)/\kitOne K (.ref C) (.type n)=some b
 u:∀T B b,t.tyC T B=some b->∃D,mg B=some (.ref D)/\kitOne K (.type T) (.ref D)=some b
 x:∀c C,t.isx c=true->mg c=some (.ref C)->((∃B b,t.sub c B=some b)\/∃n b,t.subT c n=some b)->d7 K C
 i:∀c C,t.isx c=false->mg c=some (.ref C)->((∃B b,t.sub c B=some b)\/∃n b,t.subT c n=some b)->qf K C
def IM {pins:Ac}{σ:L2.St}{H:Hp}{s:Shared}{a C:Addr}(I:Inv X pins σ H s) (ha:H a=some (bS C none a)):∃ox,InstAt s.heap a ox C none:=by
 obtain ⟨T,oe,vs,e,hc,gF,mv,_⟩:=(show aU X.prog X.w H s.heap a (bS C none a) from I.hok a _ ha).1
 exact ⟨oe,⟨e,hc,by unfold notCls;rw [mv],by rw [gF];trivial⟩⟩
def IQ {pins:Ac}{σ:L2.St}{H:Hp}{s:Shared}{a C:Addr}{A:Around}{E:Aa}{c:Value}{b:Bool}{Q:Aa}(I:Inv X pins σ H s) (ha:H a=some (bS C none a)) (k:d7 X.K C) (e:kitOne X.K (.ref C) c=some b) (h:∀tk,Q (.bool b) { s with toks:=tk }) :
  wpAny (model X.prog X.w) A (call (.builtin "isinstance") [.ref a,c]) Q E s:=by
 obtain ⟨ox,J⟩:=IM I ha
 have cl:(clsIn X.K C).isSome=true:=by obtain ⟨cd,hc,_⟩:=any_some k.hd;rw [hc];rfl
 have fo:findObj X.K C none "__class__" = some (.bind (.builtin "getset_descriptor.__get__") (.builtin "object.__class__")):=by
  obtain ⟨cd,hc⟩:=Option.isSome_iff_exists.mp cl
  unfold findObj
  rw [hc,Option.bind_some,k.ha,Option.bind_some]
  simp [k.hn,k.tk]
 exact kia_one (xl k.g cl fo k.hm) I.kIn J e (λz=>nomatch z) h
inductive gM (K:Frag) (H:Hp):V->Value->Prop where
 |of {v:V} {t:Value} (h:cj K H v t):gM K H v t
 |tup {a:Addr} {vs:List V} (h:bK K H a vs):gM K H (.ref a) (.type "tuple")
 |exc {a C d:Addr} {fs:List (Str×V)} (ha:H a=some (bS C (some d) a)) (hd:H d=some (.xd fs)) (k:d7 K C):gM K H (.ref a) (.ref C)
 |exc0 {a C:Addr} (ha:H a=some (bS C none a)) (k:d7 K C):gM K H (.ref a) (.ref C)
def IU {pins:Ac}{σ:L2.St}{H:Hp}{s:Shared}{v:V}{u t c:Value}{b:Bool}{Q:Aa}{A:Around}{E:Aa}(I:Inv X pins σ H s) (r:RelV v u) (ty:gM X.K H v t) (e:kitOne X.K t c=some b) (h:∀tk,Q (.bool b) { s with toks:=tk }) :
  wpAny (model X.prog X.w) A (call (.builtin "isinstance") [u,c]) Q E s:=by
 cases ty with
 |of ty=>exact qz I r ty e h
 |@tup a vs hq =>
  obtain rfl:u=Value.ref a:=r
  obtain ⟨its,_,p,_⟩:=I.tuple hq
  obtain ⟨o,h1,h2,_⟩:=p
  exact PySem.W.kia_one PySem.W.kitx_tuple I.kIn ⟨o,h1,h2⟩ e (λz=>nomatch z) h
 |@exc a C d fs ha hd k =>
  obtain rfl:u=Value.ref a:=r
  exact HU I ha hd k e h
 |@exc0 a C ha k =>
  obtain rfl:u=Value.ref a:=r
  exact IQ I ha k e h
def IV:bq X (.builtin "isinstance") (λxs H Q=>∃v w t c b,xs=[v,w]/\gM X.K H v t/\RelV w c/\(∀c',RelV w c'->c'=c)/\kitOne X.K t c=some b/\Q (.bl b) H):=by
 intro pins s σ H xs us Q I r h
 obtain ⟨v,w,t,c,b,rfl,ty,rw,un,e,q⟩:=h
 obtain ⟨u,w',rfl,ru,ck⟩:=qv r
 obtain rfl:=un w' ck
 exact IU I ru ty e λtk=>⟨.bl b,H,I.tok _,rfl,q⟩
def xJ {ρ:Ae}{H:Hp}{st:aj}{x:PV}{v:V}{T:String}(s:aZ K mg ρ H st) (r:R K mg ρ H x v) (h:gL st x=some (.inl T)):gM K H v (.type T):=by
 cases x with
 |non=>cases h;cases r;exact .of .non
 |bl b=>cases h;cases r;exact .of (.bl b)
 |int i=>cases h;cases r;exact .of (.int i)
 |str z=>cases h;cases r;exact .of (.str z)
 |tup xs=>cases h;obtain ⟨a,vs,rfl,h1,_⟩:=r;exact .tup h1
 |frl xs=>cases h
 |ref n =>
  obtain ⟨a,rfl,ha⟩:=r
  have h:iH st[n]?=some (.inl T):=h
  cases e:st[n]? with
  |none=>rw [e] at h;cases h
  |some so =>
   rw [e] at h
   cases so with
   |lst xs=>cases h;obtain ⟨vs,h1,_⟩:=s.addr e ha;exact .of (.lst h1)
   |dic ks xs=>cases h;obtain ⟨vs,h1,_⟩:=s.addr e ha;exact .of (.dK h1)
   |ins c ks xs=>cases h
   |fdi ks xs=>cases h
   |dit ks xs=>cases h
 |ty _=>cases h
 |fn _=>cases h
 |kd _ _=>cases h
 |exo _ _ _=>cases h
def xK {ρ:Ae}{H:Hp}{st:aj}{x:PV}{v:V}{f:Bool}{c:Str}(hx:∀C,f=true->mg c=some (.ref C)->d7 K C) (hi:∀C,f=false->mg c=some (.ref C)->qf K C) (s:aZ K mg ρ H st) (r:R K mg ρ H x v) (h:gL st x=some (.inr (f,c))):∃C,mg c=some (.ref C)/\gM K H v (.ref C):=by
 cases x with
 |ref n =>
  obtain ⟨a,rfl,ha⟩:=r
  have h:iH st[n]?=some (.inr (f,c)):=h
  cases e:st[n]? with
  |none=>rw [e] at h;cases h
  |some so =>
   rw [e] at h
   cases so with
   |lst xs=>cases h
   |dic ks xs=>cases h
   |fdi ks xs=>cases h
   |dit ks xs=>cases h
   |ins c' ks xs =>
    cases h
    obtain ⟨C,dx,vs,hC,hH,_⟩:=s.addr e ha
    have q:=hi C rfl hC
    exact ⟨C,hC,.of (.ins hH q.cl q.ha q.hn q.tk q.hm)⟩
 |exo c' ks xs =>
  cases h
  obtain ⟨a,C,rfl,hC,⟨_,hH⟩|⟨d,vs,hH,hd,_⟩⟩:=r
  ·exact ⟨C,hC,.exc0 hH (hx C rfl hC)⟩
  ·exact ⟨C,hC,.exc hH hd (hx C rfl hC)⟩
 |non=>cases h
 |bl _=>cases h
 |int _=>cases h
 |str _=>cases h
 |tup _=>cases h
 |frl _=>cases h
 |ty _=>cases h
 |fn _=>cases h
 |kd _ _=>cases h
def iI {t:IsT} (F:IsF X.K X.mg t):bX X (.builtin "isinstance") (jN t):=⟨_,IV,fun ρ H st xs vs Q E s r h=>by
 match xs,r,h with
 |[x,y],r,h =>
  obtain ⟨v,w,rfl,rx,ry⟩:=Rs.two r
  have h:Out X.K X.mg ρ H (qe t st y (gL st x) st) (gV X.K X.mg Q) E:=h
  cases hc:gL st x with
  |none=>rw [hc] at h;cases y<;>exact h.elim
  |some cc =>
   rw [hc] at h
   cases cc with
   |inl T =>
    cases y with
    |ty n =>
     cases ry
     obtain ⟨b,hb,h⟩:=mF h
     exact ⟨v,_,_,_,b,rfl,xJ s rx hc,rfl,λc' h=>h,xF X.K hb,h.now s _ rfl⟩
    |fn B =>
     obtain ⟨D,rfl,hD⟩:=ry
     obtain ⟨b,hb,h⟩:=mF h
     obtain ⟨D',hD',k⟩:=F.u T B b hb
     rw [hD] at hD'
     cases hD'
     exact ⟨v,_,_,_,b,rfl,xJ s rx hc,rfl,λc' h=>h,k,h.now s _ rfl⟩
    |_=>exact h.elim
   |inr fc =>
    obtain ⟨f,c⟩:=fc
    cases y with
    |ty n =>
     cases ry
     obtain ⟨hf,h⟩:=Out.ifp h
     obtain ⟨b,hb,h⟩:=mF h
     obtain ⟨C,hC,k⟩:=F.tt c n b hb
     obtain ⟨C',hC',ty⟩:=xK (λC e hC=>F.x c C (hf.trans e) hC (.inr ⟨n,b,hb⟩)) (λC e hC=>F.i c C (hf.trans e) hC (.inr ⟨n,b,hb⟩)) s rx hc
     rw [hC] at hC'
     cases hC'
     exact ⟨v,_,_,_,b,rfl,ty,rfl,λc' h=>h,k,h.now s _ rfl⟩
    |fn B =>
     obtain ⟨D,rfl,hD⟩:=ry
     obtain ⟨hf,h⟩:=Out.ifp h
     obtain ⟨b,hb,h⟩:=mF h
     obtain ⟨C,D',hC,hD',k⟩:=F.s c B b hb
     rw [hD] at hD'
     cases hD'
     obtain ⟨C',hC',ty⟩:=xK (λC e hC=>F.x c C (hf.trans e) hC (.inl ⟨B,b,hb⟩)) (λC e hC=>F.i c C (hf.trans e) hC (.inl ⟨B,b,hb⟩)) s rx hc
     rw [hC] at hC'
     cases hC'
     exact ⟨v,_,_,_,b,rfl,ty,rfl,λc' h=>h,k,h.now s _ rfl⟩
    |_=>exact h.elim
 |[],r,h=>exact h.elim
 |[_],r,h=>exact h.elim
 |_::_::_::_,r,h=>exact h.elim⟩
end
section
variable {X:Cx} {Er:XK} {K:Frag} {mg:Ab} {a c e o:Expr} {st:Stmt} {c5:List Stmt} {pos p pos':Pos} {fa fo:Ai} {k:Nat} {x:Str} {m:Al}
variable {g g' gb:Aj} {ga:Ak}
theorem Out.fl {ρ:Ae}{H:Hp}{st:aj}{D:Ends}{fl:Fl}{E:XK}(h:Out K mg ρ H (.ok fl st) (gS K mg D) E) (s:aZ K mg ρ H st):gS K mg D ρ H fl st:=h.now s
def zN:Aj:=λenv st=>.ok (.nx env) st
def eI (g:Aj):Fl->Mo Fl
 |.nx env,st=>g env st
 |fl,st=>.ok fl st
def zt (g g':Aj):Aj:=λenv st=>(g env st).bind (eI g')
def zT:df X Er [] zN:=b6.weak ER λD σ H ⟨env,st,ρ,re,rs,h⟩=>h.now rs σ re
def zw (h1:MS X Er st g) (h2:df X Er c5 g'):df X Er (st::c5) (zt g g') :=
 b6.weak (ES h1 h2) λD σ H ⟨env,st,ρ,re,rs,h⟩=>⟨env,st,ρ,re,rs,h.then λaa H1 fl au e1 s1 h1=>by
  cases fl with
  |nx bN=>exact λam IW=>⟨bN,au,aa,IW,s1,h1⟩
  |rt v=>exact Out.fl (D:=D) (fl:=.rt v) (E:=Er) h1 s1
  |bk bN=>exact Out.fl (D:=D) (fl:=.bk bN) (E:=Er) h1 s1
  |ct bN=>exact Out.fl (D:=D) (fl:=.ct bN) (E:=Er) h1 s1⟩
def zC (h1:MS X Er st g):df X Er [st] g:=EU h1
def zQ (i:Nat) (f:Ai):Aj:=λenv st=>(f env st).bind λx au=>.ok (.nx (env.set i (some x))) au
def zZ (i:Nat) {x:Str}(he:ME X Er e fa) (hN:X.N.Nodup) (hi:X.N[i]?=some x:=by rfl) (hx:Loc X.env.scope x:=by first|exact Or.inl rfl|exact Or.inr rfl) (hs:swapsWith e (some (.Name x pos')) pos.line X.env=pure false:=by rfl)
  (hf:X.fn x=true\/X.env.scope.names.lookup x=some .local:=by first|exact .inl rfl|exact .inr rfl|assumption):MS X Er (.Assign [.Name x pos'] e pos) (zQ i fa) :=
 PS.weak (E5 hN hi hx he hs hf) λD σ H ⟨env,st,ρ,re,rs,h⟩=>⟨env,st,ρ,re,rs,h.then λaa H1 x au e1 s1 h1 v rv=>h1.now s1 _ ((re.ext e1).set i rv)⟩
def jD (f:Ai):Aj:=λenv st=>(f env st).bind λ_ au=>.ok (.nx env) au
def zaZ (he:ME X Er e fa) (hs:swapsWith e none pos.line X.env=pure false:=by rfl):MS X Er (.Expr e pos) (jD fa) :=
 PS.weak (EW he hs) λD σ H ⟨env,st,ρ,re,rs,h⟩=>⟨env,st,ρ,re,rs,h.then λaa H1 x au e1 s1 h1 v rv=>h1.now s1 _ (re.ext e1)⟩
def zF (f:Ai):Aj:=λenv st=>(f env st).bind λx au=>.ok (.rt x) au
def zL (he:ME X Er e fa):MS X Er (.Return (some e) pos) (zF fa) :=
 PS.weak (EY he) λD σ H ⟨env,st,ρ,re,rs,h⟩=>⟨env,st,ρ,re,rs,h.then λaa H1 x au e1 s1 h1 v rv=>h1.now s1 _ rv⟩
def zM (t:Ak) (g g':Aj):Aj:=λenv st=>(t env st).bind λc au=>if c=true then g env au else g' env au
def zU {A B:List Stmt}(hc:MT X Er c ga) (ha:df X Er A g) (hb:df X Er B g'):MS X Er (.If c A B pos) (zM ga g g') :=
 PS.weak (E1 hc ha hb) λD σ H ⟨env,st,ρ,re,rs,h⟩=>⟨env,st,ρ,re,rs,h.then λaa H1 k au e1 s1 h1=>by
  cases k with
  |true=>exact ⟨env,au,aa,re.ext e1,s1,h1⟩
  |false=>exact ⟨env,au,aa,re.ext e1,s1,h1⟩⟩
def putK (f:Str) (x:PV):List Str->List PV->List Str×List PV
 |k::ks,y::ys=>if k=f then (k::ks,x::ys) else (k::(putK f x ks ys).1,y::(putK f x ks ys).2)
 |_,_=>([f],[x])
theorem zev {ρ:Ae}{H:Hp}{f:Str}{x:PV}{v:V}(r:R K mg ρ H x v):∀{ks:Ad}{xs:An}{vs:List V},ks.length=vs.length->Rs K mg ρ H xs vs->∃ws,bJ f v (ks.zip vs)=(putK f x ks xs).1.zip ws/\Rs K mg ρ H (putK f x ks xs).2 ws/\(putK f x ks xs).1.length=ws.length
 |[],xs,vs,hl,h=>by
  have:vs=[]:=by cases vs with|nil=>rfl|cons=>simp at hl
  subst this
  have:xs=[]:=by cases xs with|nil=>rfl|cons=>obtain ⟨_,_,e,_⟩:=h;cases e
  subst this
  exact ⟨[v],rfl,⟨v,[],rfl,r,rfl⟩,rfl⟩
 |k::ks,xs,vs,hl,h=>by
  cases vs with
  |nil=>simp at hl
  |cons v0 vs =>
   cases xs with
   |nil=>cases h
   |cons y ys =>
    obtain ⟨Pf,r',e,h1,h2⟩:=h
    cases e
    simp only [putK,List.zip_cons_cons,bJ]
    by_cases hk:k=f
    ·rw [zj hk,zj hk]
     exact ⟨v::vs,rfl,⟨v,vs,rfl,r,h2⟩,by simpa using hl⟩
    ·rw [zx hk,zx hk]
     obtain ⟨ws,e1,e2,e3⟩:=zev r (by simpa using hl) h2
     exact ⟨v0::ws,by rw [e1];rfl,⟨v0,ws,rfl,h1,e2⟩,by simp [e3]⟩
def putAt (f:Str) (ins:Str->Bool) (x:PV):PV->Mo Unit
 |.ref n,st=>yG st n λc ks xs=>if ins c=true/\ks.length<1000 then .ok () (st.set n (.ins c (putK f x ks xs).1 (putK f x ks xs).2)) else .stuck
 |_,_=>.stuck
def sFld (f:Str) (ins:Str->Bool) (fo fv:Ai):Aj:=λenv st=>(fv env st).bind λx au=>(fo env au).bind λo aK=>(putAt f ins x o aK).bind λ_ ba=>.ok (.nx env) ba
def zew {f:Str}{ins exc:Str->Bool}(F:FldF X.K X.mg f ins exc) (ho:ME X Er o fo) (he:ME X Er e fa) (hs:swapsWith e (some (.Attribute o f pos')) pos.line X.env=pure false:=by rfl):MS X Er (.Assign [.Attribute o f pos'] e pos) (sFld f ins fo fa) :=
 PS.weak (FT ho he hs) λD σ H ⟨env,st,ρ,re,rs,h⟩=>⟨env,st,ρ,re,rs,h.then λaa H1 x au e1 s1 h1 v rv=>⟨env,au,aa,re.ext e1,s1,h1.then λai H2 y aK e2 s2 h2 w rw=>by
  cases y with
  |ref n =>
   cases hn:aK[n]? with
   |none=>simp only [putAt,yG,hn] at h2;exact h2.elim
   |some so =>
    cases so with
    |lst _=>simp only [putAt,yG,hn] at h2;exact h2.elim
    |dic _ _=>simp only [putAt,yG,hn] at h2;exact h2.elim
    |fdi _ _=>simp only [putAt,yG,hn] at h2;exact h2.elim
    |dit _ _=>simp only [putAt,yG,hn] at h2;exact h2.elim
    |ins c ks xs =>
     simp only [putAt,yG,hn] at h2
     by_cases hc:ins c=true/\ks.length<1000
     ·rw [zj hc] at h2
      obtain ⟨p,rfl,hp⟩:=rw
      obtain ⟨C',dx,vs,hC',hH,hR,hl⟩:=s2.addr hn hp
      obtain ⟨C,hC,cl,na⟩:=F.i c hc.1
      rw [hC] at hC'
      cases hC'
      obtain ⟨ws,k1,k2,k3⟩:=zev (f:=f) (R.ext e2 x rv) hl hR
      refine ⟨p,_,dx,_,rfl,hH,cl,na,?_,?_⟩
      ·rw [List.length_zip,<-hl];have:=hc.2;omega
      ·have ew:Ext ai H2 ai (upd H2 p (.ins C' dx (bJ f v (ks.zip vs)))):=Ext.write hH rfl
       exact h2 ai _ ew (s2.write hp ew ⟨_,dx,ws,hC,by rw [yD,k1],Rs.ext ew _ k2,k3⟩) σ (((re.ext e1).ext e2).ext ew)
     ·rw [zx hc] at h2;exact h2.elim
  |_=>exact h2.elim⟩⟩
def MG (X:Cx) (Er:XK) (e:Expr) (g:PV->za->Option za):Prop:=PG X e λv σ H Q=>∃x env cI ρ,R X.K X.mg ρ H x v/\a7 X.K X.mg ρ H env σ/\g x env=some cI/\∀σ',a7 X.K X.mg ρ H cI σ'->Q σ' H
def PG.weak {t t':TG}(h:PG X e t) (w:∀v σ H Q,t' v σ H Q->t v σ H Q):PG X e t':=λpins s σ H v u Q I r q=>h pins s σ H v u Q I r (w v σ H Q q)
def gN (i:Nat):PV->za->Option za:=λx env=>some (env.set i (some x))
def mG (i:Nat) {x:Str}(hN:X.N.Nodup) (hi:X.N[i]?=some x:=by rfl) (hx:Loc X.env.scope x:=by first|exact Or.inl rfl|exact Or.inr rfl) (hf:X.fn x=true\/X.env.scope.names.lookup x=some .local:=by first|exact .inl rfl|exact .inr rfl|assumption):MG X Er (.Name x pos) (gN i) :=
 PG.weak (qq hN hi hx hf) λv σ H Q ⟨x,env,cI,ρ,rx,re,hg,q⟩=>by
  cases hg
  exact q _ (re.set i rx)
def g2 (i j:Nat):PV->za->Option za
 |.tup [x,y],env=>some ((env.set i (some x)).set j (some y))
 |_,_=>none
def g3 (i j k:Nat):PV->za->Option za
 |.tup [x,y,z],env=>some (((env.set i (some x)).set j (some y)).set k (some z))
 |_,_=>none
inductive Sq where
 |im (xs:An)|rf (n:Nat)
def Walk (K:Frag) (mg:Ab) (J:It) (ρ:Ae) (H:Hp):Sq->Prop
 | .im xs=>(∀i af H',Ext ρ H af H'->i<xs.length->J.go i H')/\(∀i af H',Ext ρ H af H'->xs.length<=i->J.stop i H') /\
  ∀i af H' st v H2,Ext ρ H af H'->aZ K mg af H' st->i<xs.length->J.yld i H' v H2->∃x,xs[i]?=some x/\Ext af H' af H2/\aZ K mg af H2 st/\R K mg af H2 x v
 |.rf n=>∃a,ρ[n]?=some a/\J=nQ K a
def MI (X:Cx) (Er:XK) (tg iter:Expr) (src:za->Mo Sq):Prop:=PI X tg iter fun σ H R=>∃env st ρ,a7 X.K X.mg ρ H env σ/\aZ X.K X.mg ρ H st/\Out X.K X.mg ρ H (src env st) (λaf H' q aR=>∀J,Walk X.K X.mg J af H' q->R J H') Er
def forL (g:PV->za->Option za) (body:Aj):List PV->Aj
 |[],env,st=>.ok (.nx env) st
 | x::xs,env,st=>match g x env with
  |none=>.stuck
  | some bN=>(body bN st).bind λfl aK=>match fl with
   |.nx e=>forL g body xs e aK
   |.ct e=>forL g body xs e aK
   |.bk e=>.ok (.nx e) aK
   |.rt v=>.ok (.rt v) aK
def forR (g:PV->za->Option za) (body:Aj) (n:Nat):Nat->Nat->Aj
 |0,_,_,_=>.stuck
 | m+1,i,env,st=>ym st n λxs=>match xs[i]? with
  |none=>.ok (.nx env) st
  | some x=>match g x env with
   |none=>.stuck
   | some bN=>(body bN st).bind λfl aK=>match fl with
    |.nx e=>forR g body n m (i+1) e aK
    |.ct e=>forR g body n m (i+1) e aK
    |.bk e=>.ok (.nx e) aK
    |.rt v=>.ok (.rt v) aK
def mH (g:PV->za->Option za) (body:Aj):Sq->Aj
 |.im xs=>forL g body xs
 |.rf n=>forR g body n (lim+1) 0
def gO (src:za->Mo Sq) (g:PV->za->Option za) (body:Aj):Aj:=λenv st=>(src env st).bind λq au=>mH g body q env au
def zdc {tg iter:Expr}{src:za->Mo Sq}{gt:PV->za->Option za}(hp:PassesOwn (model X.prog X.w) X.A X.env X.xe) (hc:X.calm=true) (hi:MI X Er tg iter src) (hg:MG X Er tg gt) (hb:df X Er c5 gb)
  (hs:∀x,foldedSetIterable iter X.env x=pure x:=by intro _;rfl):MS X Er (.For tg iter c5 [] pos) (gO src gt gb) :=
 PS.weak (uU hp hc hi hg hb hs) λD σ H ⟨env,st,ρ,re,rs,h⟩=>⟨env,st,ρ,re,rs,h.then λal H0 q fA e0 s0 h0 J wk=>by
  cases q with
  |im xs =>
   obtain ⟨w1,w2,w3⟩:=wk
   refine ⟨λi m σ H=>m=xs.length-i/\i<=xs.length/\∃env st ρ,a7 X.K X.mg ρ H env σ/\aZ X.K X.mg ρ H st/\Ext al H0 ρ H/\Out X.K X.mg ρ H (forL gt gb (xs.drop i) env st) (gS X.K X.mg D) Er,⟨xs.length,by simp,jP _,env,fA,al,re.ext e0,s0,Ext.refl,h0⟩,?_⟩
   rintro i m σ H ⟨rfl,hi,env,st,ρ,re,rs,ex,h⟩
   by_cases bg:i<xs.length
   ·refine .inr ⟨w1 i ρ H ex bg,_,fun σ' H' p'=>⟨xs.length-(i+1),by omega,rfl,bg,p'⟩,λv H' y=>?_⟩
    obtain ⟨x,hx,dO,s2,rx⟩:=w3 i ρ H st v H' ex rs bg y
    have hd:xs.drop i=x::xs.drop (i+1):=by
     rw [fJ bg]
     have:=(yN.mp hx).2
     rw [this]
    rw [hd] at h
    cases hgx:gt x env with
    |none=>simp only [forL,hgx] at h;exact h.elim
    |some bN =>
     simp only [forL,hgx] at h
     refine ⟨x,env,bN,ρ,rx,re.ext dO,hgx,λam r1=>⟨bN,st,ρ,r1,s2,Out.then (Out.ext h dO) λak H3 fl ba e3 s3 h3=>?_⟩⟩
     cases fl with
     |nx e=>exact λax r4=>⟨e,ba,ak,r4,s3,(ex.trans dO).trans e3,h3⟩
     |ct e=>exact λax r4=>⟨e,ba,ak,r4,s3,(ex.trans dO).trans e3,h3⟩
     |bk e=>exact Out.fl (D:=D) (fl:=.nx e) (E:=Er) h3 s3
     |rt v=>exact Out.fl (D:=D) (fl:=.rt v) (E:=Er) h3 s3
   ·have e:i=xs.length:=by omega
    subst e
    rw [List.drop_length] at h
    exact .inl ⟨w2 _ ρ H ex (z0 _),Out.now (x:=Fl.nx env) h rs σ re⟩
  |rf n =>
   obtain ⟨a,ha,rfl⟩:=wk
   refine ⟨λi m σ H=>∃env st ρ,a7 X.K X.mg ρ H env σ/\aZ X.K X.mg ρ H st/\ρ[n]?=some a/\Out X.K X.mg ρ H (forR gt gb n m i env st) (gS X.K X.mg D) Er,⟨lim+1,env,fA,al,re.ext e0,s0,ha,h0⟩,?_⟩
   rintro i m σ H ⟨env,st,ρ,re,rs,ha,h⟩
   cases m with
   |zero=>exact h.elim
   |succ m =>
    obtain ⟨xs,hn,h⟩:=jB h
    obtain ⟨vs,hH,hR⟩:=rs.addr hn ha
    cases hx:xs[i]? with
    |none =>
     simp only [hx] at h
     have:vs.length<=i:=by rw [<-hR.len];exact hW.mp hx
     exact .inl ⟨⟨vs,a_.of hH,this⟩,Out.now (x:=Fl.nx env) h rs σ re⟩
    |some x =>
     simp only [hx] at h
     obtain ⟨v,hv,rv⟩:=hR.get hx
     refine .inr ⟨⟨vs,v,a_.of hH,hv⟩,_,fun σ' H' p'=>⟨m,wV m,p'⟩,λv' H' y=>?_⟩
     obtain ⟨e1,y⟩:=y
     subst e1
     have e2:=y vs (a_.of hH)
     rw [hv] at e2
     cases e2
     cases hgx:gt x env with
     |none=>simp only [hgx] at h;exact h.elim
     |some bN =>
      simp only [hgx] at h
      refine ⟨x,env,bN,ρ,rv,re,hgx,λam r1=>⟨bN,st,ρ,r1,rs,Out.then h λak H3 fl ba e3 s3 h3=>?_⟩⟩
      cases fl with
      |nx e=>exact λax r4=>⟨e,ba,ak,r4,s3,e3.get ha,h3⟩
      |ct e=>exact λax r4=>⟨e,ba,ak,r4,s3,e3.get ha,h3⟩
      |bk e=>exact Out.fl (D:=D) (fl:=.nx e) (E:=Er) h3 s3
      |rt v=>exact Out.fl (D:=D) (fl:=.rt v) (E:=Er) h3 s3⟩
end
section
variable {X:Cx} {Er:XK} {K:Frag} {mg:Ab} {a b c e o tg:Expr} {es:List Expr} {st:Stmt} {c5:List Stmt} {pos p apos:Pos} {fa fo:Ai} {fs:Ah} {k:Nat} {x:Str} {m:Al}
variable {g gb:Aj} {ga:Ak}
def PI.weak {t t':TI}(h:PI X tg e t) (w:∀σ H Q,t' σ H Q->t σ H Q):PI X tg e t':=λpins s σ H Q I q=>h pins s σ H Q I (w σ H Q q)
def IY (K:Frag) (tl:TE):TI:=fun σ H R=>tl σ H λx H1=>(∃a,x=.ref a/\(∃xs,a_ K H1 a xs)/\R (nQ K a) H1)\/(∃a,x=.ref a/\(∃xs,bK K H1 a xs)/\R (qr K a) H1)\/∃z,x=.str z/\R (qW z) H1
def IZ {l:Expr}{tl:TE}(hl:PE X l tl):PI X tg l (IY X.K tl):=by
 intro pins s σ H R I h
 refine aO (hl pins s σ H _ I h) λv s1 ⟨x,H1,I1,r1,q1⟩=>?_
 have fin:∀b∈[s1.heap.objs.size],c6 X pins H1 b:=λb hb=>by
  have e:b=s1.heap.objs.size:=by simpa using hb
  subst e
  exact I1.fpOk (z0 _) (I1.hok.fresh (z0 _))
 rcases q1 with ⟨a,e,⟨xs,hq⟩,q⟩|⟨a,e,⟨xs,hq⟩,q⟩|⟨z,rfl,q⟩
 ·subst e
  cases r1
  obtain ⟨its,rv,p,hz⟩:=I1.list hq
  exact wpAny_pyIter_list p.isList ⟨s1.heap.objs.size,[s1.heap.objs.size],_,_,H1,rfl,I1.kept (t':=s1.toks) (λb o e=>z8 _ e),E_ a _,⟨_,yV _ rfl,rfl,rfl⟩,fin,q⟩
 ·subst e
  cases r1
  obtain ⟨its,rv,p,hz⟩:=I1.tuple hq
  exact wpAny_pyIter_tuple (show s1.heap.IsTuple a its.toArray from p) ⟨s1.heap.objs.size,[s1.heap.objs.size],_,_,H1,rfl,I1.kept (t':=s1.toks) (λb o e=>z8 _ e),Fb a _,⟨_,yV _ rfl,rfl,rfl⟩,fin,q⟩
 ·obtain ⟨t,rfl⟩:=r1
  cases ha:z.cps.all (·<128) with
  |false=>exact wpAny_pyIter_wide ha ⟨s1.heap.objs.size,[s1.heap.objs.size],_,_,H1,rfl,I1.kept (t':=s1.toks) (λb o e=>z8 _ e),vX z t _ "str_iterator" (.inr rfl),⟨_,yV _ rfl,rfl,rfl⟩,fin,q⟩
  |true=>exact wpAny_pyIter_ascii ha ⟨s1.heap.objs.size,[s1.heap.objs.size],_,_,H1,rfl,I1.kept (t':=s1.toks) (λb o e=>z8 _ e),vX z t _ "str_ascii_iterator" (.inl rfl),⟨_,yV _ rfl,rfl,rfl⟩,fin,q⟩
def I_ {ρ:Ae}{H:Hp}{a:Addr}{xs:An}{vs:List V}(h:bK K H a vs) (r:Rs K mg ρ H xs vs):Walk K mg (qr K a) ρ H (.im xs):=by
 refine ⟨λi af H' e hi=>?_,λi af H' e hi=>⟨vs,e.sqT h,by rw [<-r.len];exact hi⟩,λi af H' st v H2 e s hi y=>?_⟩
 ·obtain ⟨v,hv,_⟩:=r.get (yc hi)
  exact ⟨vs,v,e.sqT h,hv⟩
 ·obtain ⟨e1,y⟩:=y
  subst e1
  obtain ⟨v',hv,rv⟩:=r.get (yc hi)
  have:=y vs (e.sqT h)
  rw [hv] at this
  cases this
  exact ⟨_,yc hi,Ext.refl,s,R.ext e _ rv⟩
def Ja {ρ:Ae}{H:Hp}{a:Addr}{xs:An}{vs:List V}(h:fQ K H a vs) (r:Rs K mg ρ H xs vs):Walk K mg (nQ K a) ρ H (.im xs):=by
 have hs:∀{af H'},Ext ρ H af H'->a_ K H' a vs:=λe=>(e.frl h).sq
 refine ⟨λi af H' e hi=>?_,λi af H' e hi=>⟨vs,hs e,by rw [<-r.len];exact hi⟩,λi af H' st v H2 e s hi y=>?_⟩
 ·obtain ⟨v,hv,_⟩:=r.get (yc hi)
  exact ⟨vs,v,hs e,hv⟩
 ·obtain ⟨e1,y⟩:=y
  subst e1
  obtain ⟨v',hv,rv⟩:=r.get (yc hi)
  have:=y vs (hs e)
  rw [hv] at this
  cases this
  exact ⟨_,yc hi,Ext.refl,s,R.ext e _ rv⟩
def signs (z:Str):An:=z.cps.toList.map λc=>.str ⟨#[c]⟩
def Jb {ρ:Ae}{H:Hp}(z:Str):Walk K mg (qW z) ρ H (.im (signs z)):=by
 have hl:(signs z).length=z.cps.size:=by simp [signs]
 refine ⟨λi af H' e hi=>by rw [hl] at hi;exact hi,λi af H' e hi=>by rw [hl] at hi;exact hi,λi af H' st v H2 e s hi y=>?_⟩
 obtain ⟨e1,c,hc,e2⟩:=y
 subst e1 e2
 refine ⟨.str ⟨#[c]⟩,?_,Ext.refl,s,rfl⟩
 simp [signs,hc]
def nums (lo:Int) (n:Nat):An:=(List.range n).map λi=>.int (lo+(i:Nat))
def Jc {ρ:Ae}{H:Hp}(lo:Int) (n:Nat):Walk K mg (nR lo n) ρ H (.im (nums lo n)):=by
 have hl:(nums lo n).length=n:=by simp [nums]
 refine ⟨λi af H' e hi=>by rw [hl] at hi;exact hi,λi af H' e hi=>by rw [hl] at hi;exact hi,λi af H' st v H2 e s hi y=>?_⟩
 obtain ⟨e1,e2⟩:=y
 subst e1 e2
 rw [hl] at hi
 exact ⟨.int (lo+i),by simp [nums,hi],Ext.refl,s,rfl⟩
def eW:PV->Mo Sq
 |.tup xs,st=>.ok (.im xs) st
 |.frl xs,st=>.ok (.im xs) st
 |.str z,st=>.ok (.im (signs z)) st
 |.ref n,st=>ym st n λ_=>.ok (.rf n) st
 |_,_=>.stuck
def jE (f:Ai):za->Mo Sq:=λenv st=>(f env st).bind eW
def zaw (h:ME X Er e fa):MI X Er tg e (jE fa):=PI.weak (IZ h) fun σ H Q ⟨env,st,ρ,re,rs,h⟩=>⟨env,st,ρ,re,rs,h.then λaa H1 x au e1 s1 h1 v rv=>by
 cases x with
 |tup xs =>
  obtain ⟨a,vs,rfl,k1,k2⟩:=rv
  exact .inr (.inl ⟨a,rfl,⟨vs,k1⟩,Out.now (x:=Sq.im xs) h1 s1 _ (I_ k1 k2)⟩)
 |frl xs =>
  obtain ⟨a,vs,rfl,k1,k2⟩:=rv
  exact .inl ⟨a,rfl,⟨vs,k1.sq⟩,Out.now (x:=Sq.im xs) h1 s1 _ (Ja k1 k2)⟩
 |str z =>
  cases rv
  exact .inr (.inr ⟨z,rfl,Out.now (x:=Sq.im (signs z)) h1 s1 _ (Jb z)⟩)
 |ref n =>
  obtain ⟨a,rfl,ha⟩:=rv
  obtain ⟨xs,hn,h1⟩:=jB h1
  obtain ⟨vs,k1,k2⟩:=s1.addr hn ha
  exact .inl ⟨a,rfl,⟨vs,a_.of k1⟩,h1.now s1 _ ⟨a,ha,rfl⟩⟩
 |_=>exact h1.elim⟩
abbrev cR (j:Int):Bool:=decide (-(2 ^ 62)<=j)&&decide (j<2 ^ 62)
def iJ:List PV->Mo Sq
 |[.int j],st=>if cR j=true then .ok (.im (nums 0 j.toNat)) st else .stuck
 |_,_=>.stuck
def Jd {ρ:Ae}{H:Hp}{xs:An}{st:aj}{good:List Addr->Hp->Sq->aj->Prop}(h:Out K mg ρ H (iJ xs st) good Er):∃j,xs=[.int j] /\ -(2 ^ 62)<=j/\j<2 ^ 62/\Out K mg ρ H (.ok (.im (nums 0 j.toNat)) st) good Er:=by
 unfold iJ at h
 split at h
 ·obtain ⟨c,h⟩:=Out.ifp h
  simp [cR] at c
  exact ⟨_,rfl,c.1,c.2,h⟩
 ·exact h.elim
def bT (fs:Ah):za->Mo Sq:=λenv st=>(fs env st).bind iJ
def Je {a:Expr} (hm:X.mg "range" = none) (ha:MA X Er [a] fs) (hg:Gl X "range" := by rfl) (hs:starEach [a] X.env=[(false,eval a X.env)]:=by rfl):MI X Er tg (.Call (.Name "range" p) [a] [] pos) (bT fs) :=
 PI.weak (Fe hg hm ha hs) fun σ H Q ⟨env,st,ρ,re,rs,h⟩=>⟨env,st,ρ,re,rs,h.then λaa H1 xs au e1 s1 h1 vs rv=>by
  obtain ⟨j,rfl,c1,c2,h1⟩:=Jd h1
  obtain ⟨v,rfl,rfl⟩:=Rs.one rv
  exact ⟨j,rfl,c1,c2,h1.now s1 _ (Jc 0 j.toNat)⟩⟩
def bB (t:Ak) (b:Aj):Nat->Aj
 |0,_,_=>.stuck
 | n+1,env,st=>(t env st).bind λc au=>if c=true then (b env au).bind λfl aK=>match fl with
   |.nx e=>bB t b n e aK
   |.ct e=>bB t b n e aK
   |.bk e=>.ok (.nx e) aK
   |.rt v=>.ok (.rt v) aK
  else .ok (.nx env) au
def oU (t:Ak) (b:Aj):Aj:=bB t b lim
def Jf (hp:PassesOwn (model X.prog X.w) X.A X.env X.xe) (hc:MT X Er c ga) (hb:df X Er c5 gb):MS X Er (.While c c5 [] pos) (oU ga gb) :=
 PS.weak (E9 hp hc hb) λD σ H ⟨env,st,ρ,re,rs,h⟩=>by
  refine ⟨λm σ H=>∃env st ρ,a7 X.K X.mg ρ H env σ/\aZ X.K X.mg ρ H st/\Out X.K X.mg ρ H (bB ga gb m env st) (gS X.K X.mg D) Er,⟨lim,env,st,ρ,re,rs,h⟩,?_⟩
  rintro m σ H ⟨env,st,ρ,re,rs,h⟩
  cases m with
  |zero=>exact h.elim
  |succ m =>
   refine ⟨env,st,ρ,re,rs,Out.then h λaa H1 k au e1 s1 h1=>?_⟩
   cases k with
   |true =>
    change (if true=true then _ else D.nx σ H1)
    rw [zj rfl]
    refine ⟨_,fun σ' H' p'=>⟨m,wV m,p'⟩,env,au,aa,re.ext e1,s1,Out.then h1 λak H3 fl ba e3 s3 h3=>?_⟩
    cases fl with
    |nx e=>exact λax r4=>⟨e,ba,ak,r4,s3,h3⟩
    |ct e=>exact λax r4=>⟨e,ba,ak,r4,s3,h3⟩
    |bk e=>exact Out.fl (D:=D) (fl:=.nx e) (E:=Er) h3 s3
    |rt v=>exact Out.fl (D:=D) (fl:=.rt v) (E:=Er) h3 s3
   |false =>
    have z:D.nx σ H1:=Out.fl (D:=D) (fl:=.nx env) (E:=Er) h1 s1 σ (re.ext e1)
    exact z
def bx (cn:Str):Aj:=λ_ st=>.err cn [] [] st
def bQ {U:Type}:Res U->Res U
 |.err _ _ _ _=>.stuck
 |r=>r
def iK {U β:Type}{ρ:Ae}{H:Hp}{r:Res β}{f:β->Mo U}{good:List Addr->Hp->U->aj->Prop}{de:List Addr->Hp->β->aj->Prop}{E E':XK}(h:Out K mg ρ H ((bQ r).bind f) good E) (g:∀af H' x st,Ext ρ H af H'->aZ K mg af H' st->Out K mg af H' (f x st) good E->de af H' x st):Out K mg ρ H r de E':=by
 cases r with
 |ok x st=>exact λaf H' e s=>g af H' x st e s (Out.ext h e)
 |err=>exact h.elim
 |stuck=>exact h.elim
def Jg (K:Frag) (mg:Ab) (f:Ai):TX:=fun σ H Q E=>∃env st ρ,a7 K mg ρ H env σ/\aZ K mg ρ H st/\Out K mg ρ H (f env st) (gV K mg Q) E
def MX (X:Cx) (e:Expr) (f:Ai):Prop:=PX X e (Jg X.K X.mg f)
def PX.weak {t t':TX}(h:PX X e t) (w:∀σ H Q E,t' σ H Q E->t σ H Q E):PX X e t':=λpins s σ H Q E I q=>h pins s σ H Q E I (w σ H Q E q)
def eX (m:Al) (fs:Ah):Ai:=λenv st=>(bQ (fs env st)).bind m
def Jh (C:bH X.prog X.w X.K X.mg X.base x k m) (hr:aY k X.A) (ha:MA X.nox E0 (e::es) fs) (hg:Gl X x:=by rfl) (bC:(x==("__debug__" : Str))=false:=by decide)
  (he:starEach (e::es) X.env=(false,eval e X.env)::starEach es X.env:=by rfl) (bj:(backTo pos (starEach es X.env)).any (·.1)=false:=by rfl):MX X (.Call (.Name x p) (e::es) [] pos) (eX m fs):=by
 obtain ⟨f,fd,ps,hm,hk,hb,F⟩:=C
 exact PX.weak (HH F hr hg hm hk hb .nil ha bC he bj) fun σ H Q E ⟨env,st,ρ,re,rs,h⟩=>⟨env,st,ρ,re,rs,iK h λaa H1 xs au e1 s1 k vs rv=>by
  show dZ X.K X.mg m (vs++[]) H1 Q E
  rw [List.append_nil]
  exact ⟨xs,au,aa,rv,s1,k⟩⟩
def gP:Am
 |.ref n,y,st=>ym st n λxs=>if xs.length<lim then .ok .non (st.set n (.lst (xs++[y]))) else .stuck
 |_,_,_=>.stuck
def R.refL {ρ:Ae}{H:Hp}{st:aj}{n:Nat}{xs:An}{v:V}(s:aZ K mg ρ H st) (r:R K mg ρ H (.ref n) v) (h:st[n]?=some (.lst xs)):∃a vs,v=.ref a/\ρ[n]?=some a/\H a=some (.lst vs)/\Rs K mg ρ H xs vs:=by
 obtain ⟨a,rfl,ha⟩:=r
 obtain ⟨vs,h1,h2⟩:=s.addr h ha
 exact ⟨a,vs,rfl,ha,h1,h2⟩
def eY:PV->Mo PV
 |.ref n,st=>ym st n λ_=>.ok (.ref n) st
 |_,_=>.stuck
def wt (op:Am) (fo fv:Ai):Ai:=λenv st=>(fo env st).bind λo au=>(eY o au).bind λo au=>(fv env au).bind λy aK=>op o y aK
def xM {U:Type}{ρ:Ae}{H:Hp}{x:PV}{st:aj}{f:PV->Mo U}{good:List Addr->Hp->U->aj->Prop}(h:Out K mg ρ H ((eY x st).bind f) good Er):∃n xs,x=.ref n/\st[n]?=some (.lst xs)/\Out K mg ρ H (f (.ref n) st) good Er:=by
 cases x with
 |ref n =>
  unfold eY ym at h
  cases hn:st[n]? with
  |none=>simp only [hn] at h;exact h.elim
  |some so =>
   cases so with
   |lst xs=>simp only [hn] at h;exact ⟨n,xs,rfl,hn,h⟩
   |_=>simp only [hn] at h;exact h.elim
 |_=>exact h.elim
def zg6 {aS:Pos} (ho:ME X Er o fo) (he:ME X Er e fa) (br:attributeBase o "append" X.env (eval o X.env)=eval o X.env:=by rfl)
  (eO:((backTo aS (starEach [e] X.env)).all (λx=>!x.1)&&(backToKw aS (keywordEach [] X.env)).all (λx=>x.1.isSome)&&decide ([e].length+([]:List Keyword).length+(if ([]:List Keyword).isEmpty then 0 else 1)<30))=true:=by rfl)
  (cm:(apos.endLine==aS.line)=true:=by rfl) (hs:starEach [e] X.env=(false,eval e X.env)::starEach [] X.env:=by rfl) (bj:(backTo aS (starEach [] X.env)).any (·.1)=false:=by rfl):ME X Er (.Call (.Attribute o "append" apos) [e] [] aS) (wt gP fo fa) :=
 PE.weak (qG PySem.F.plainAttrs_list PySem.F.slot_list_append PySem.F.type_list_append zmM ho (nW he nV hs) br eO cm hs bj) fun σ H Q ⟨env,st,ρ,re,rs,h⟩=>⟨env,st,ρ,re,rs,h.then λaa H1 x au e1 s1 h1 v rv=>by
  obtain ⟨n,xs,rfl,hn,h1⟩:=xM h1
  obtain ⟨p,vs,rfl,hp,k1,k2⟩:=R.refL s1 rv hn
  refine ⟨.inl ⟨rfl,vs,a_.of k1⟩,env,au,aa,re.ext e1,s1,h1.then λai H2 y aK e2 s2 h2 w rw=>?_⟩
  obtain ⟨xs2,eo,h2⟩:=jB h2
  obtain ⟨c,h2⟩:=Out.ifp h2
  obtain ⟨p',iC,e3,cY,k3,k4⟩:=R.refL s2 (R.ext e2 _ rv) eo
  cases e3
  have ew:Ext ai H2 ai (upd H2 p (.lst (iC++[w]))):=Ext.write k3 rfl
  refine ⟨p,iC,w,rfl,rfl,k3,?_,h2 ai _ ew (s2.write cY ew ⟨iC++[w],yD,Rs.ext ew _ (k4.append ⟨w,[],rfl,rw,rfl⟩)⟩) _ rfl⟩
  rw [<-k4.len,sizeLine_eq];have:xs2.length<1000000:=c;omega⟩
end
def endOf:Fl->Mo PV
 |.rt v,st=>.ok v st
 |.nx _,st=>.ok .non st
 |_,_=>.stuck
def z6 (np nN:Nat) (g:Aj):Al:=λxs st=>if xs.length=np then (g (xs.map some++List.replicate (nN-np) none) st).bind endOf else .stuck
section
variable {P:Program} {w:World} {K:Frag} {mg:Ab} {base:Heap}
abbrev oV (P:Program) (w:World) (K:Frag) (mg:Ab) (base:Heap) (N:Ad) (qual:Str) (scope:Scope) (f:Addr) (cd:Value) (A:Around) (outer:List Env) (s:Shared) (H:Hp) (E:XK):Cx :=
 (cG (bU P w) P w K mg base N qual scope f cd A outer s H E).wish (XA (cG (bU P w) P w K mg base N qual scope f cd A outer s H E) E)
def xN {N:Ad}{np:Nat}{ρ:Ae}{H:Hp}{xs:An}{vs:List V}(r:Rs K mg ρ H xs vs) (h:xs.length=np):a7 K mg ρ H (xs.map some++List.replicate (N.length-np) none) (L2.start N vs):=by
 have hl:=r.len
 refine ⟨by simp [L2.start,<-hl,h],λi x hx=>?_⟩
 by_cases hi:i<xs.length
 ·rw [gj (by simpa using hi)] at hx
  simp only [y7] at hx
  cases hq:xs[i]? with
  |none=>rw [hq] at hx;cases hx
  |some y =>
   rw [hq] at hx
   cases hx
   obtain ⟨v,hv,rv⟩:=r.get hq
   refine ⟨v,?_,rv⟩
   unfold L2.start
   rw [gj (by simp;omega)]
   simp [hv]
 ·rw [hV (by simpa using hi)] at hx
  rw [List.getElem?_replicate] at hx
  split at hx<;>cases hx
def oW {x qual:Str}{sm:Stmt}{f:Addr}{fd:FuncData}{N ps:Ad}{k:Nat}{g:Aj}(F:cW K x qual sm f fd) (S:aH N ps (zI sm))
  (hb:∀(aQ:Value) (A:Around) (outer:List Env) (s:Shared) (H:Hp) (E:XK),aY k (A.deeper (PyProof.Rows.envOfC qual (zI sm) s.heap.objs.size f aQ))->df (oV P w K mg base N qual (zI sm) f aQ A outer s H E) E (jd sm) g) :
  bf P w K mg base (bU P w) (k+1) f fd ps (dZ K mg (z6 ps.length N.length g)):=by
 refine F.okT S (λvs H Q E h=>?_) λaQ A outer s H vs Q E hr h=>⟨_,hb aQ A outer s H E hr,?_⟩
 ·obtain ⟨xs,st,ρ,r,_,h⟩:=h
  obtain ⟨hl,_⟩:=Out.ifp h
  rw [<-r.len];exact hl
 ·obtain ⟨xs,st,ρ,r,rs,h⟩:=h
  obtain ⟨hl,h⟩:=Out.ifp h
  refine ⟨_,st,ρ,xN r hl,rs,h.then λaa H1 fl au e1 s1 h1=>?_⟩
  cases fl with
  |rt v=>exact λu ru=>Out.now (x:=v) h1 s1 u ru
  |nx e=>exact fun σ' _=>Out.now (x:=PV.non) h1 s1 _ rfl
  |_=>exact h1.elim
def Ji {x:Str}{f:Addr}{fd:FuncData}{ps:Ad}{k:Nat}{m:Al}{sm:Stmt}{qual nm:Str}(hm:mg x=some (.ref f)) (F:cW K nm qual sm f fd) (hb:Binds K fd ps []) (h:bf P w K mg base (bU P w) k f fd ps (dZ K mg m)):bH P w K mg base x k m:=⟨f,fd,ps,hm,F.kp,hb,h⟩
end
section
variable {X:Cx} {Er:XK} {P:Program} {w:World} {K:Frag} {mg:Ab} {base:Heap} {pos:Pos} {x:Str}
def zX {k:Nat}{A:Around}(hr:aY k A):A.units+200<cLine:=by have:=hr.un;omega
def k8:Aj:=λ_ _=>.stuck
def rH {n:Int} (h:∃t,X.mg x=some (.int n t)) (hg:Gl X x:=by rfl) (hd:(x==("__debug__" : Str))=false:=by decide):ME X Er (.Name x pos) (mC (.int n)):=let ⟨t,h⟩:=h;rh (v:=.int n) h ⟨t,rfl⟩ (λ_ _=>rfl) hg hd
def rJ {z:Str} (h:∃t,X.mg x=some (.str z t)) (hg:Gl X x:=by rfl) (hd:(x==("__debug__" : Str))=false:=by decide):ME X Er (.Name x pos) (mC (.str z)):=let ⟨t,h⟩:=h;rh (v:=.str z) h ⟨t,rfl⟩ (λ_ _=>rfl) hg hd
def k9 (h:∃f,X.mg x=some (.ref f)) (hg:Gl X x:=by rfl) (hd:(x==("__debug__" : Str))=false:=by decide):ME X Er (.Name x pos) (mC (.fn x)):=let ⟨f,h⟩:=h;rh (v:=.ref f) h rfl (λ_ _=>⟨f,rfl,h⟩) hg hd
def FnF (K:Frag) (mg:Ab) (x:Str) (sm:Stmt) (ps:Ad):Prop:=∃f fd,mg x=some (.ref f)/\cW K x x sm f fd/\Binds K fd ps []
def MtF (K:Frag) (mg:Ab) (c name qual:Str) (sm:Stmt) (ps:Ad):Prop:=∃C f fd,mg c=some (.ref C)/\du K C/\Meth K C name f/\cW K name qual sm f fd/\Binds K fd ps []
def NwF (K:Frag) (mg:Ab) (c qual:Str) (sm:Stmt) (ps:Ad):Prop:=∃C f fd,mg c=some (.ref C)/\Mk K C f/\cW K "__init__" qual sm f fd/\Binds K fd ps []
def FnF.ok {sm:Stmt}{N ps:Ad}{k:Nat}{g:Aj}(h:FnF K mg x sm ps) (S:aH N ps (zI sm))
  (hb:∀(f:Addr) (aQ:Value) (A:Around) (outer:List Env) (s:Shared) (H:Hp) (E:XK),aY k (A.deeper (PyProof.Rows.envOfC x (zI sm) s.heap.objs.size f aQ))->df (oV P w K mg base N x (zI sm) f aQ A outer s H E) E (jd sm) g) :
  bH P w K mg base x (k+1) (z6 ps.length N.length g):=by
 obtain ⟨f,fd,hm,F,b⟩:=h
 exact Ji hm F b (oW F S (hb f))
def MtF.ok {c name qual:Str}{sm:Stmt}{N ps:Ad}{k:Nat}{g:Aj}(h:MtF K mg c name qual sm ps) (S:aH N ps (zI sm))
  (hb:∀(f:Addr) (aQ:Value) (A:Around) (outer:List Env) (s:Shared) (H:Hp) (E:XK),aY k (A.deeper (PyProof.Rows.envOfC qual (zI sm) s.heap.objs.size f aQ))->df (oV P w K mg base N qual (zI sm) f aQ A outer s H E) E (jd sm) g) :
  bP P w K mg base c name (k+1) (z6 ps.length N.length g):=by
 obtain ⟨C,f,fd,hm,cl,mt,F,b⟩:=h
 exact ⟨C,f,fd,ps,hm,cl,mt,b,oW F S (hb f)⟩
def NwF.ok {c qual:Str}{sm:Stmt}{N ps:Ad}{k:Nat}{g:Aj}(h:NwF K mg c qual sm ps) (S:aH N ps (zI sm))
  (hb:∀(f:Addr) (aQ:Value) (A:Around) (outer:List Env) (s:Shared) (H:Hp) (E:XK),aY k (A.deeper (PyProof.Rows.envOfC qual (zI sm) s.heap.objs.size f aQ))->df (oV P w K mg base N qual (zI sm) f aQ A outer s H E) E (jd sm) g) :
  rF P w K mg base c (k+1) (z6 ps.length N.length g):=by
 obtain ⟨C,f,fd,hm,mk,F,b⟩:=h
 exact ⟨C,f,fd,ps,hm,mk,b,oW F S (hb f)⟩
def Jj {C D:Addr} {b:Bool} (h1:(clsIn K D).isSome=true) (h2:typeIn K (.ref D)=some (.type "type")) (h3:subIn K (.ref C) (.ref D)=some b) (gA:C≠D):kitOne K (.ref C) (.ref D)=some b:=by
 unfold kitOne
 rw [zx (by simpa using gA)]
 unfold kitCls
 simp [h1,h2,h3]
def Jk {C:Addr}{T:String}{b:Bool}(h1:kitMeta T=true) (h3:subIn K (.ref C) (.type T)=some b):kitOne K (.ref C) (.type T)=some b:=by
 unfold kitOne
 rw [zx (by simp)]
 unfold kitCls
 simp [h1,h3]
def j5:bootBuiltins "len" = some (.builtin "len"):=by decide +kernel
def y9:bootBuiltins "isinstance" = some (.builtin "isinstance"):=by decide +kernel
def rK:bootBuiltins "int" = some (.type "int"):=by decide +kernel
def Jl:bootBuiltins "bool" = some (.type "bool"):=by decide +kernel
def j6:bootBuiltins "str" = some (.type "str"):=by decide +kernel
def rL:bootBuiltins "tuple" = some (.type "tuple"):=by decide +kernel
def Jm:bootBuiltins "dict" = some (.type "dict"):=by decide +kernel
def Jn:bootBuiltins "ValueError" = some (.type "ValueError"):=by decide +kernel
end
theorem bH.mono {P:Program}{w:World}{K:Frag}{mg:Ab}{base:Heap}{x:Str}{j k:Nat}{m:Al}(h:bH P w K mg base x j m) (mI:j<=k):bH P w K mg base x k m:=by
 obtain ⟨f,fd,ps,h1,h2,h3,h4⟩:=h
 exact ⟨f,fd,ps,h1,h2,h3,h4.mono mI⟩
theorem bP.mono {P:Program}{w:World}{K:Frag}{mg:Ab}{base:Heap}{c x:Str}{j k:Nat}{m:Al}(h:bP P w K mg base c x j m) (mI:j<=k):bP P w K mg base c x k m:=by
 obtain ⟨C,f,fd,ps,h1,h2,h3,h4,h5⟩:=h
 exact ⟨C,f,fd,ps,h1,h2,h3,h4,h5.mono mI⟩
def fS (K:Frag):Sp:=λvs H Q _=>∃(a:Addr) (ns:List Int),vs=[.ref a]/\a_ K H a (ns.map V.int)/\Only H/\ns.length<=63/\∀H',Q (.bl true) H'
theorem xO {K:Frag}{mg:Ab}{ρ:Ae}{H:Hp}:∀ns:List Int,Rs K mg ρ H (ns.map PV.int) (ns.map V.int)
 |[]=>rfl
 |n::ns=>⟨_,_,rfl,rfl,xO ns⟩
def Jo {K:Frag}{H:Hp}{a:Addr}{vs:List V}(h:a_ K H a vs) (o:Only H):fQ K H a vs:=by
 rcases h with (h|⟨ob,h⟩)|h
 ·rcases o a with z|⟨ob,xs,z⟩
  ·rw [h] at z;cases z
  ·rw [h] at z;cases z
 ·exact .inl ⟨ob,h⟩
 ·exact .inr h
def Jp {P:Program}{w:World}{K:Frag}{mg:Ab}{base:Heap}{k:Nat}{f:Addr}{fd:FuncData}{ps:Ad}{m:Al}(F:bf P w K mg base (bU P w) k f fd ps (dZ K mg m)) (h:∀ns:List Int,ns.length<=63->∃st,m [.frl (ns.map PV.int)] []=.ok (.bl true) st):bf P w K mg base (bU P w) k f fd ps (fS K) :=
 F.imp λvs H Q E ⟨a,ns,e,hs,ho,hl,q⟩=>by
  subst e
  obtain ⟨st,hm⟩:=h ns hl
  refine ⟨[.frl (ns.map PV.int)],[],[],⟨_,[],rfl,⟨a,_,rfl,Jo hs ho,xO ns⟩,rfl⟩,⟨rfl,List.nodup_nil,λn so e=>by simp at e⟩,?_⟩
  rw [hm]
  intro af H' _ _ v rv
  cases rv
  exact q H'
def walkM {l:PySem.W.OpenLaw}{k:Nat}{x:Str}{q:Program}{loose:Ad}{XP:(Ab)->Heap->Prop}{YP:World->Heap->Prop}{d:DefRec}{K:Params->PySem.W.Frag}(hn:l.most=some 63) (md:d.params.defaults=[]) (hr:aY k callerA)
  (hY:∀(w:World) (h:Heap),YP w h->(K w.params).In h)
  (F:∀(w:World) (mg:Ab) (fa:Addr) (h:Heap),(K w.params).In h->h.Ns mainGlobals mg->mg d.name=some (.ref fa) ->
   ∃fd:FuncData,(∀(s:Shared) (u:Value),BindsTo s fd ⟨[u],[]⟩ [(x,u)])/\∀base:Heap,(K w.params).In base->base.Ns mainGlobals mg->bf l.prog w (K w.params) mg base (bU l.prog w) k fa fd [x] (fS (K w.params))) :
  PySem.W.WalkO q loose XP YP l.row.toRowW d [] (λf vs=>PySem.call f vs) :=
 L2.zmV (n:=63) (k:=k) (x:=x) (CX:=λw=>bU l.prog w) (sp:=λw=>fS (K w.params)) hn (by decide) md hr hY F (λ_ _ a ns hl ho hS=>⟨a,ns,rfl,hS,ho,hl,λ_=>rfl⟩) λw H s e s' g=>by obtain ⟨_,_,_,_,_,_,_,_,_,_,_,_,_,_,_,z⟩:=g;exact z
section
variable {U β:Type} {env:za} {st au:aj} {fa fb fo fv:Ai} {fs:Ah} {ga gb:Ak} {g g':Aj} {op:Am} {o1:PV->Mo PV} {m:Al}
@[simp] def zA (a:U) (f:U->Mo β):(Res.ok a st).bind f=f a st:=(rfl)
@[simp] def wu (c:Str) (ks:Ad) (xs:An) (f:U->Mo β):(Res.err c ks xs st:Res U).bind f=.err c ks xs st:=(rfl)
@[simp] def Jq (i:Nat):zb i env st=(match env[i]? with|some (some x)=>.ok x st|_=>.stuck):=(rfl)
@[simp] def Jr:zf op fa fb env st=(fa env st).bind λx au=>(fb env au).bind λy aK=>op x y aK:=(rfl)
@[simp] def Js:yJ o1 fa env st=(fa env st).bind o1:=(rfl)
@[simp] def Jt:mB fa env st=(fa env st).bind fR:=(rfl)
@[simp] def mJ (b:Bool):fR (.bl b) st=.ok b st:=(rfl)
@[simp] def xP:wF ga gb env st=(ga env st).bind λc au=>if c=true then gb env au else .ok false au:=(rfl)
@[simp] def xQ:ju ga gb env st=(ga env st).bind λc au=>if c=true then .ok true au else gb env au:=(rfl)
@[simp] def Ju:yT ga env st=(ga env st).bind λc au=>.ok (!c) au:=(rfl)
@[simp] def Jv:iF fa fb env st=(fa env st).bind λx au=>(fR x au).bind λc aK=>if c=true then fb env aK else .ok (.bl false) aK:=(rfl)
@[simp] def xR:rj ga fa fb env st=(ga env st).bind λc au=>if c=true then fa env au else fb env au:=(rfl)
@[simp] def xS:ze fa fs env st=(fa env st).bind λx au=>(fs env au).bind λxs aK=>.ok (x::xs) aK:=(rfl)
@[simp] def Jw:oJ fs env st=(fs env st).bind λxs au=>if xs.length<=lim then .ok (.tup xs) au else .stuck:=(rfl)
@[simp] def xT:y1 fs env st=(fs env st).bind λxs au=>if xs.length<=lim then .ok (.ref au.length) (au++[.lst xs]) else .stuck:=(rfl)
@[simp] def Jx (fl fu:za->Mo (Option Int)):jC fa fl fu env st=(fa env st).bind λx au=>(fl env au).bind λl aK=>(fu env aK).bind λu ba=>k7 x l u ba:=(rfl)
@[simp] def Jy:bA fa env st=(fa env st).bind rD:=(rfl)
@[simp] def Jz (i:Int):rD (.int i) st=.ok (some i) st:=(rfl)
@[simp] def JA:zo m fs env st=(fs env st).bind m:=(rfl)
@[simp] def xU (i:Int):mD (.int i) st=.ok (.int (-i)) st:=(rfl)
@[simp] def JB (x y:Str):zB (.str x) (.str y) st=if x.length+y.length<=lim then .ok (.str (x++y)) st else .stuck:=(rfl)
@[simp] def Pg (x:PV):cD (some x) st=.ok x st:=(rfl)
@[simp] def JC (xs:An) (l u:Option Int):k7 (.frl xs) l u st=.ok (.ref st.length) (st++[.lst (cH xs l u)]):=(rfl)
@[simp] def Ph (x y:PV):yf x y st=if plain x=true/\plain y=true/\dep x<=150 then .ok (.bl (bD x y)) st else .stuck:=(rfl)
@[simp] def Pj (x y:PV):k6 x y st=if plain x=true/\plain y=true/\dep x<=150 then .ok (.bl (!bD x y)) st else .stuck:=(rfl)
@[simp] def JD:zN env st=.ok (.nx env) st:=(rfl)
@[simp] def rM:zt g g' env st=(g env st).bind (eI g'):=(rfl)
@[simp] def JE:eI g (.nx env) st=g env st:=(rfl)
@[simp] def JF (x:PV):eI g (.rt x) st=.ok (.rt x) st:=(rfl)
@[simp] def xV (i:Nat):zQ i fa env st=(fa env st).bind λx au=>.ok (.nx (env.set i (some x))) au:=(rfl)
@[simp] def xW:jD fa env st=(fa env st).bind λ_ au=>.ok (.nx env) au:=(rfl)
@[simp] def xX:zF fa env st=(fa env st).bind λx au=>.ok (.rt x) au:=(rfl)
@[simp] def xY:zM ga g g' env st=(ga env st).bind λc au=>if c=true then g env au else g' env au:=(rfl)
@[simp] def JG (x:PV):endOf (.rt x) st=.ok x st:=(rfl)
@[simp] def k_:jE fa env st=(fa env st).bind eW:=(rfl)
@[simp] def xZ (src:za->Mo Sq) (gt:PV->za->Option za):gO src gt g env st=(src env st).bind λq au=>mH gt g q env au:=(rfl)
@[simp] def JH (gt:PV->za->Option za) (xs:An):mH gt g (.im xs) env st=forL gt g xs env st:=(rfl)
@[simp] def Pk (gt:PV->za->Option za):forL gt g [] env st=.ok (.nx env) st:=(rfl)
@[simp] def iL (a:U):bQ (Res.ok a st)=.ok a st:=(rfl)
def yH {n:Nat}{xs:An}(h:st[n]?=some (.lst xs)) (k:List PV->Res U):ym st n k=k xs:=by unfold ym;rw [h]
@[simp] def x5:wt op fo fv env st=(fo env st).bind λo au=>(eY o au).bind λo au=>(fv env au).bind λy aK=>op o y aK:=(rfl)
@[simp] def x8 (n:Nat):eY (.ref n) st=ym st n λ_=>.ok (.ref n) st:=(rfl)
def jj (n:Nat):bB ga g (n+1) env st=(ga env st).bind λc au=>if c=true then (g env au).bind λfl aK=>match fl with
   |.nx e=>bB ga g n e aK
   |.ct e=>bB ga g n e aK
   |.bk e=>.ok (.nx e) aK
   |.rt v=>.ok (.rt v) aK
  else .ok (.nx env) au:=rfl
@[simp] def JI:lim=1000000:=(rfl)
end
section
variable {K:Frag} {mg:Ab} {h:Heap} {x:Str} {f C:Addr} {oc:Value} {od an:Option Addr} {dI:Array (Option Value)} {kV doc pm aQ ct:Value} {sm:Stmt} {ps:Ad}
def zeD (X:K.In h) (G:h.Ns mainGlobals mg) (a:nsIn K mainGlobals x=some (some (.ref f))) (l:K.lookup f=some ⟨oc,od,.func (fnOf x x (wE sm) (jd sm) (zI sm) .none kV doc pm an aQ ct),dI⟩) (c:codeIn K aQ x=true) (k:keepIn K (.ref f)=true)
  (b:∀(kV doc pm:Value) (an:Option Addr) (aQ ct:Value) (us:Af),us.length=ps.length->bindArgs (fnOf x x (wE sm) (jd sm) (zI sm) .none kV doc pm an aQ ct) ⟨us,[]⟩=pure (ps.zip us)):FnF K mg x sm ps :=
 ⟨f,_,mg_of X G a,kU l c k,(kU l c k).binds b⟩
def zeE {c name qual:Str} (X:K.In h) (G:h.Ns mainGlobals mg) (aC:nsIn K mainGlobals c=some (some (.ref C))) (pg:plainGet K C Str.empty=true) (hd:hasDictIn K C=true) (po:plainOver K C=true) (sa:findIn K (.ref C) "__setattr__" = some (some (.builtin "object.__setattr__")))
  (a:findIn K (.ref C) name=some (some (.ref f))) (i:isFn K (.ref f)=true) (l:K.lookup f=some ⟨oc,od,.func (fnOf name qual (wE sm) (jd sm) (zI sm) .none kV doc pm an aQ ct),dI⟩) (cd:codeIn K aQ qual=true) (k:keepIn K (.ref f)=true)
  (b:∀(kV doc pm:Value) (an:Option Addr) (aQ ct:Value) (us:Af),us.length=ps.length->bindArgs (fnOf name qual (wE sm) (jd sm) (zI sm) .none kV doc pm an aQ ct) ⟨us,[]⟩=pure (ps.zip us)):MtF K mg c name qual sm ps :=
 ⟨C,f,_,mg_of X G aC,⟨pg,hd,po,sa⟩,⟨a,i,k⟩,kU l cd k,(kU l cd k).binds b⟩
def zoJ {c qual:Str}(X:K.In h) (G:h.Ns mainGlobals mg) (aC:nsIn K mainGlobals c=some (some (.ref C))) (mk:makesIn K C=true) (kc:keepIn K (.ref C)=true)
  (a:findIn K (.ref C) "__init__" = some (some (.ref f))) (i:isFn K (.ref f)=true) (l:K.lookup f=some ⟨oc,od,.func (fnOf "__init__" qual (wE sm) (jd sm) (zI sm) .none kV doc pm an aQ ct),dI⟩) (cd:codeIn K aQ qual=true) (k:keepIn K (.ref f)=true)
  (b:∀(kV doc pm:Value) (an:Option Addr) (aQ ct:Value) (us:Af),us.length=ps.length->bindArgs (fnOf "__init__" qual (wE sm) (jd sm) (zI sm) .none kV doc pm an aQ ct) ⟨us,[]⟩=pure (ps.zip us)):NwF K mg c qual sm ps :=
 ⟨C,f,_,mg_of X G aC,⟨mk,a,i,kc⟩,kU l cd k,(kU l cd k).binds b⟩
def zoK {c fld:Str} (X:K.In h) (G:h.Ns mainGlobals mg) (aC:nsIn K mainGlobals c=some (some (.ref C))) (pg:plainGet K C Str.empty=true) (hd:hasDictIn K C=true) (po:plainOver K C=true) (sa:findIn K (.ref C) "__setattr__" = some (some (.builtin "object.__setattr__"))) (na:findIn K (.ref C) fld=some none) :
  ∃C,mg c=some (.ref C)/\du K C/\b8 K C fld:=⟨C,mg_of X G aC,⟨pg,hd,po,sa⟩,na⟩
def zhm {U:Type}{P:U->Prop}:∀p∈([]:List U),P p:=λ_ h=>nomatch h
def all_cons {U:Type}{P:U->Prop}{a:U}{l:List U}(h:P a) (t:∀p∈l,P p):∀p∈a::l,P p:=λp hp=>by
 rcases yn.mp hp with rfl|hp
 ·exact h
 ·exact t p hp
def zcm {c B:Str} {D:Addr} {b:Bool} {JJ:ClassData} (X:K.In h) (G:h.Ns mainGlobals mg) (aC:nsIn K mainGlobals c=some (some (.ref C))) (aD:nsIn K mainGlobals B=some (some (.ref D))) (h1:clsIn K D=some JJ) (h2:typeIn K (.ref D)=some (.type "type")) (h3:subIn K (.ref C) (.ref D)=some b) (gA:C≠D) :
  ∃C D,mg c=some (.ref C)/\mg B=some (.ref D)/\kitOne K (.ref C) (.ref D)=some b:=⟨C,D,mg_of X G aC,mg_of X G aD,Jj (by rw [h1];rfl) h2 h3 gA⟩
def zoL {c:Str}{T:String}{b:Bool}(X:K.In h) (G:h.Ns mainGlobals mg) (aC:nsIn K mainGlobals c=some (some (.ref C))) (h1:kitMeta T=true) (h3:subIn K (.ref C) (.type T)=some b):∃C,mg c=some (.ref C)/\kitOne K (.ref C) (.type T)=some b:=⟨C,mg_of X G aC,Jk h1 h3⟩
def zoM {c:Str} (X:K.In h) (G:h.Ns mainGlobals mg) (aC:nsIn K mainGlobals c=some (some (.ref C))) (ga:findIn K (.ref C) "__getattribute__" = some (some (.builtin "BaseException.__getattribute__"))) (hk:findIn K (.ref C) "__getattr__" = some none) (hB:mroIn K C (.type "BaseException")=some true)
  (hd:hasDictIn K C=true) (ha:findIn K (.ref C) "__class__" = some (some (.builtin "object.__class__"))) (hn:specialIn K (.builtin "object.__class__") "__get__" = some (some (.builtin "getset_descriptor.__get__"))) (tk:takesIn K (.builtin "object.__class__")=some true) (hm:mroIn K C (.type "object")=some true) :
  ∀D,mg c=some (.ref D)->d7 K D:=λD hD=>by
 have e:=mg_of X G aC
 rw [hD] at e
 cases e
 exact ⟨⟨ga,hk,hB⟩,hd,ha,hn,tk,hm⟩
theorem rN {U β:Type} [BEq U] [LawfulBEq U] {a:U}{b:β}:∀{l:List (U×β)},l.lookup a=some b->(a,b)∈l
 |[],h=>by simp at h
 | (c,d)::l,h=>by
  rw [wU] at h
  split at h
  ·rename_i e;cases h;rw [eq_of_beq e];simp
  ·exact yd _ (rN h)
def zoN {t:IsT}{cn:Str}{L:List (Str×Bool)}{LT:List (String×Bool)}(hs:t.sub=λc B=>if c=cn then L.lookup B else none) (hT:t.subT=λc n=>if c=cn then LT.lookup n else none) (hC:t.tyC=λ_ _=>none) (hx:t.isx=λc=>decide (c=cn))
  (h1:∀p∈L,∃C D,mg cn=some (.ref C)/\mg p.1=some (.ref D)/\kitOne K (.ref C) (.ref D)=some p.2) (h2:∀p∈LT,∃C,mg cn=some (.ref C)/\kitOne K (.ref C) (.type p.1)=some p.2) (ex:∀D,mg cn=some (.ref D)->d7 K D):IsF K mg t where
 s c B b h:=by
  rw [hs] at h
  by_cases e:c=cn
  ·subst e
   simp only [jH] at h
   exact h1 _ (rN h)
  ·simp only [zx e] at h;cases h
 tt c n b h:=by
  rw [hT] at h
  by_cases e:c=cn
  ·subst e
   simp only [jH] at h
   exact h2 _ (rN h)
  ·simp only [zx e] at h;cases h
 u T B b h:=by rw [hC] at h;cases h
 x c C h hm _:=by
  rw [hx] at h
  have:c=cn:=by simpa using h
  subst this
  exact ex C hm
 i c C h _ z:=by
  rw [hx] at h
  have ne:c≠cn:=by simpa using h
  rcases z with ⟨B,b,z⟩|⟨n,b,z⟩
  ·rw [hs] at z;simp only [zx ne] at z;cases z
  ·rw [hT] at z;simp only [zx ne] at z;cases z
end
def zoO {P:Program}{w:World}{K:Frag}{mg:Ab}{x y:Str}{sm:Stmt}{fa:Addr}{k:Nat}{m:Al}(h:FnF K mg x sm [y]) (hmg:mg x=some (.ref fa))
  (hb:∀(kV doc pm:Value) (an:Option Addr) (aQ ct:Value) (u:Value),bindArgs (fnOf x x (wE sm) (jd sm) (zI sm) .none kV doc pm an aQ ct) ⟨[u],[]⟩=pure [(y,u)])
  (hok:∀(f:Addr) (fd:FuncData),cW K x x sm f fd->∀base:Heap,bf P w K mg base (bU P w) k f fd [y] (dZ K mg m)) (hp:∀ns:List Int,ns.length<=63->∃st,m [.frl (ns.map PV.int)] []=.ok (.bl true) st) :
  ∃fd:FuncData,(∀(s:Shared) (u:Value),BindsTo s fd ⟨[u],[]⟩ [(y,u)])/\∀base:Heap,K.In base->base.Ns mainGlobals mg->bf P w K mg base (bU P w) k fa fd [y] (fS K):=by
 obtain ⟨f,fd,hm,F,_⟩:=h
 rw [hmg] at hm
 cases hm
 refine ⟨fd,λs u=>?_,λbase _ _=>Jp (hok fa fd F base) hp⟩
 obtain ⟨oc,od,kV,doc,pm,an,aQ,ct,dI,rfl,_⟩:=F.ex
 exact .of_eq (hb kV doc pm an aQ ct u)
def zbI {K:Frag}{mg:Ab}{h:Heap}{x:Str}{f:Addr}(X:K.In h) (G:h.Ns mainGlobals mg) (a:nsIn K mainGlobals x=some (some (.ref f))):∃f,mg x=some (.ref f):=⟨f,mg_of X G a⟩
def zeG {K:Frag}{mg:Ab}{h:Heap}{x:Str}{i:Int}{t:Tok}(X:K.In h) (G:h.Ns mainGlobals mg) (a:nsIn K mainGlobals x=some (some (.int i t))):∃t,mg x=some (.int i t):=⟨t,mg_of X G a⟩
def zhn {K:Frag}{mg:Ab}{h:Heap}{x z:Str}{t:Tok}(X:K.In h) (G:h.Ns mainGlobals mg) (a:nsIn K mainGlobals x=some (some (.str z t))):∃t,mg x=some (.str z t):=⟨t,mg_of X G a⟩
def zoP {K:Frag}{mg:Ab}{h:Heap}{x:Str}(X:K.In h) (G:h.Ns mainGlobals mg) (a:nsIn K mainGlobals x=some none):mg x=none:=mg_none_of X G a
section
variable {X:Cx} {Er:XK} {K:Frag} {mg:Ab} {a e o:Expr} {pos pos':Pos} {fo:Ai}
abbrev kz (ks:Ad) (vs:List V):List (Key×V):=(ks.map Sum.inr).zip vs
theorem rO {z:Str}:∀{ks:Ad}{vs:List V},cw (kz ks vs) (Sum.inr z)=(ks.zip vs).lookup z
 |[],_=>by simp [kz,cw]
 |k::ks,[]=>by simp [kz,cw]
 |k::ks,v::vs=>by
  have ih:=rO (z:=z) (ks:=ks) (vs:=vs)
  by_cases h:k=z
  ·subst h
   rw [show kz (k::ks) (v::vs)=(Sum.inr k,v)::kz ks vs from rfl,oh rfl]
   simp [wU]
  ·rw [show kz (k::ks) (v::vs)=(Sum.inr k,v)::kz ks vs from rfl,oi (by simpa using h),ih]
   have:(z==k)=false:=by simpa using λq=>h q.symm
   simp [wU,this]
theorem x9 {z:Str}:∀{ks:Ad}{vs:List V},ks.length=vs.length->((kz ks vs).any λkv=>decide (kv.1=Sum.inr z))=ks.contains z
 |[],_,_=>by simp [kz]
 |k::ks,[],h=>by simp at h
 |k::ks,v::vs,h=>by
  have ih:=x9 (z:=z) (ks:=ks) (vs:=vs) (by simpa using h)
  rw [show kz (k::ks) (v::vs)=(Sum.inr k,v)::kz ks vs from rfl,List.any_cons,ih,List.contains_cons]
  congr 1
  by_cases hz:k=z
  ·subst hz;simp
  ·have:(z==k)=false:=by simpa using λq=>hz q.symm
   simp [hz,this]
def repl {U:Type}(z:Str) (x:U):List Str->List U->List U
 |k::ks,y::ys=>(if k=z then x else y)::repl z x ks ys
 |_,ys=>ys
def jV (z:Str) (x:PV) (ks:Ad) (xs:An):List Str×List PV:=if ks.contains z=true then (ks,repl z x ks xs) else (ks++[z],xs++[x])
theorem x_ {z:Str}{v:V}:∀{ks:Ad}{vs:List V},(kz ks vs).map (λkv=>if kv.1=Sum.inr z then (kv.1,v) else kv)=kz ks (repl z v ks vs)
 |[],_=>by simp [kz]
 |k::ks,[]=>by simp [kz,repl]
 |k::ks,w::vs=>by
  rw [show kz (k::ks) (w::vs)=(Sum.inr k,w)::kz ks vs from rfl,yi,x_,show repl z v (k::ks) (w::vs)=(if k=z then v else w)::repl z v ks vs from rfl,show ∀u us,kz (k::ks) (u::us)=(Sum.inr k,u)::kz ks us from λ_ _=>rfl]
  by_cases h:k=z
  ·subst h;simp
  ·rw [zx (by simpa using h),zx h]
theorem y_ {ρ:Ae}{H:Hp}{z:Str}{x:PV}{v:V}(r:R K mg ρ H x v):∀{ks:Ad}{xs:An}{vs:List V},Rs K mg ρ H xs vs->Rs K mg ρ H (repl z x ks xs) (repl z v ks vs)
 |[],xs,vs,h=>by cases xs<;>cases vs<;>exact h
 |k::ks,[],vs,h=>by cases h;exact rfl
 |k::ks,y::ys,vs,h=>by
  obtain ⟨w,ws,rfl,h1,h2⟩:=h
  refine ⟨_,_,rfl,?_,y_ r h2⟩
  split
  ·exact r
  ·exact h1
theorem z_ {U:Type}{z:Str}{x:U}:∀{ks:Ad}{xs:List U},(repl z x ks xs).length=xs.length
 |[],xs=>by cases xs<;>rfl
 |k::ks,[]=>rfl
 |k::ks,y::ys=>by simp [repl,z_ (ks:=ks)]
def JK {ρ:Ae}{H:Hp}{z:Str}{x:PV}{v:V}(r:R K mg ρ H x v) {ks:Ad}{xs:An}{vs:List V}(hl:ks.length=vs.length) (h:Rs K mg ρ H xs vs):∃ws,L2.putK (kz ks vs) (Sum.inr z) v=kz (jV z x ks xs).1 ws/\Rs K mg ρ H (jV z x ks xs).2 ws/\(jV z x ks xs).1.length=ws.length:=by
 unfold L2.putK jV
 rw [x9 hl]
 by_cases hc:ks.contains z=true
 ·rw [zj hc,zj hc]
  exact ⟨repl z v ks vs,x_,y_ r h,by rw [z_];exact hl⟩
 ·rw [zx hc,zx hc]
  refine ⟨vs++[v],?_,h.append ⟨v,[],rfl,r,rfl⟩,by simp [hl]⟩
  show _=(List.map Sum.inr (ks++[z])).zip (vs++[v])
  rw [y8,List.zip_append (by simpa using hl)]
  rfl
def oX:Ai:=λ_ st=>.ok (.ref st.length) (st++[.dic [] []])
def zeI:ME X Er (.Dict [] [] pos) oX:=PE.weak Hy fun σ H Q ⟨env,st,ρ,re,rs,h⟩=>λq hq =>
 h (ρ++[q]) _ (Ext.push hq) (rs.push hq ⟨[],yD,rfl,rfl⟩) _ ⟨q,rfl,by rw [<-rs.len];simp⟩
def Ag:Am
 |.ref n,.str z,st=>y3 st n λks xs=>cD ((ks.zip xs).lookup z) st
 |_,_,_=>.stuck
def z9:Am
 |.ref n,.str z,st=>Ag (.ref n) (.str z) st
 |x,y,st=>rq x y st
def JL:R2:=λx y H Q=>∃a v,x=.ref a/\c_ H a y (some v)/\Q v H
def Ao (hu:X.A.units+1<cLine):eA X JL:=by
 intro value slice pins s σ H x y v u Q I rx ry h hs
 obtain ⟨a,w,rfl,g,q⟩:=h
 obtain rfl:v=Value.ref a:=rx
 exact PyProof.Rows.tail_any (Ht I g) PySem.F.slot_dict_getitem.lookup (Hm hu I g ry λw' s' I' ck=>⟨w,H,I',ck,q⟩) hs
def R.refD {ρ:Ae}{H:Hp}{st:aj}{n:Nat}{ks:Ad}{xs:An}{v:V}(s:aZ K mg ρ H st) (r:R K mg ρ H (.ref n) v) (h:st[n]?=some (.dic ks xs)):∃a vs,v=.ref a/\ρ[n]?=some a/\H a=some (.dK (kz ks vs))/\Rs K mg ρ H xs vs/\ks.length=vs.length:=by
 obtain ⟨a,rfl,ha⟩:=r
 obtain ⟨vs,h1,h2,h3⟩:=s.addr h ha
 exact ⟨a,vs,rfl,ha,h1,h2,h3⟩
def Aq {H:Hp}{a:Addr}{ks:Ad}{vs:List V}{z:Str}(h:H a=some (.dK (kz ks vs))):c_ H a (.str z) ((ks.zip vs).lookup z):=by
 have g:=c_.k (k:=Sum.inr z) h
 rw [rO] at g
 exact g
def jf (hu:X.A.units+200<cLine):kE X z9:=by
 obtain ⟨r,h1,h2⟩:=Ir (X:=X)
 refine ⟨_,h1.or (Ao (by omega)),fun ρ H st x y v w Q E s rx ry h=>?_⟩
 by_cases hx:∃n z,x=.ref n/\y=.str z
 ·obtain ⟨n,z,rfl,rfl⟩:=hx
  obtain ⟨ks,xs,e,h⟩:=oK (show Out X.K X.mg ρ H (y3 st n λks xs=>cD ((ks.zip xs).lookup z) st) (gV X.K X.mg Q) E from h)
  obtain ⟨q,hq,h⟩:=gI h
  obtain ⟨a,vs,rfl,_,k1,k2,_⟩:=R.refD s rx e
  cases ry
  obtain ⟨v,hv,rv⟩:=iG k2 hq
  refine .inr ⟨a,v,rfl,?_,h.now s _ rv⟩
  have g:=Aq (z:=z) k1
  rw [hv] at g
  exact g
 ·refine .inl (h2 ρ H st x y v w Q E s rx ry ?_)
  have:z9 x y st=rq x y st:=by
   unfold z9
   split
   ·rename_i n z;exact absurd ⟨n,z,rfl,rfl⟩ hx
   ·rfl
  rw [this] at h
  exact h
def iM (z x:PV):PV->Mo Unit
 | .ref n,st=>match z with
  |.str z=>y3 st n λks xs=>if ks.length<lim then .ok () (st.set n (.dic (jV z x ks xs).1 (jV z x ks xs).2)) else .stuck
  |_=>.stuck
 |_,_=>.stuck
def wJ (fo fi fv:Ai):Aj:=λenv st=>(fv env st).bind λx au=>(fo env au).bind λo aK=>(fi env aK).bind λz ba=>(iM z x o ba).bind λ_ oI=>.ok (.nx env) oI
def Av {i value:Expr}{fi fv:Ai}(hu:X.A.units+200<cLine) (ho:ME X Er o fo) (hi:ME X Er i fi) (hv:ME X Er value fv) (hs:swapsWith value (some (.Subscript o i pos')) pos.line X.env=pure false:=by rfl):MS X Er (.Assign [.Subscript o i pos'] value pos) (wJ fo fi fv) :=
 PS.weak (Hv (by omega) ho hi hv hs) λD σ H ⟨env,st,ρ,re,rs,h⟩=>⟨env,st,ρ,re,rs,h.then λaa H1 x au e1 s1 h1 v rv=>⟨env,au,aa,re.ext e1,s1,h1.then λai H2 y aK e2 s2 h2 w rw=>⟨env,aK,ai,(re.ext e1).ext e2,s2,h2.then λak H3 zz ba e3 s3 h3 u ru=>by
  cases y with
  |ref n =>
   cases zz with
   |str z =>
    cases hn:ba[n]? with
    |none=>simp only [iM,y3,hn] at h3;exact h3.elim
    |some so =>
     cases so with
     |lst _=>simp only [iM,y3,hn] at h3;exact h3.elim
     |ins _ _ _=>simp only [iM,y3,hn] at h3;exact h3.elim
     |fdi _ _=>simp only [iM,y3,hn] at h3;exact h3.elim
     |dit _ _=>simp only [iM,y3,hn] at h3;exact h3.elim
     |dic ks xs =>
      simp only [iM,y3,hn] at h3
      by_cases hc:ks.length<lim
      ·rw [zj hc] at h3
       obtain ⟨a,vs,e4,ha,k1,k2,k3⟩:=R.refD s3 (R.ext e3 _ rw) hn
       subst e4
       cases ru
       obtain ⟨ws,q1,q2,q3⟩:=JK (z:=z) (R.ext e3 x (R.ext e2 x rv)) k3 k2
       have hlen:(kz ks vs).length<sizeLine:=by
        have:(kz ks vs).length=ks.length:=by simp [kz,k3]
        rw [this,sizeLine_eq]
        have:ks.length<1000000:=hc
        omega
       have g:=eS.k (k:=Sum.inr z) (v:=v) k1 hlen
       have ew:Ext ak H3 ak (upd H3 a (.dK (L2.putK (kz ks vs) (Sum.inr z) v))):=Ext.write k1 rfl
       refine ⟨a,_,rfl,g,h3 ak _ ew (s3.write ha ew ⟨ws,by rw [yD,q1],Rs.ext ew _ q2,q3⟩) σ ((((re.ext e1).ext e2).ext e3).ext ew)⟩
      ·rw [zx hc] at h3;exact h3.elim
   |_=>exact h3.elim
  |_=>exact h3.elim⟩⟩⟩
end
open Classical in
def dP (K:Frag) (mg:Ab) (ρ:Ae) (H:Hp) (ys:An) (x:PV) (u:Value):Bool:=decide (∃y v,y∈ys/\R K mg ρ H y v/\RelV v u/\bD y x=true)
section
variable {X:Cx} {K:Frag} {mg:Ab} {ρ:Ae} {pins:Ac} {σ:L2.St} {H:Hp} {s:Shared}
def okIn (x:PV) (ys:An):Prop:=Mi.plain x=true/\bZ ys=true/\eV ys<=150
instance (x:PV) (ys:An):Decidable (okIn x ys):=by unfold okIn;infer_instance
theorem Rs.mem:∀{xs:An}{vs:List V}{us:Af}{u:Value},Rs K mg ρ H xs vs->Vals vs us->u∈us->∃y v,y∈xs/\R K mg ρ H y v/\RelV v u
 |[],_,_,_,h,hv,hu=>by cases h;cases hv;cases hu
 |x::xs,_,_,u,h,hv,hu=>by
  obtain ⟨v,r,rfl,h1,h2⟩:=h
  cases hv with
  |cons r1 r2 =>
   rcases yn.mp hu with rfl|hu
   ·exact ⟨x,v,by simp,h1,r1⟩
   ·obtain ⟨y,w,q1,q2,q3⟩:=Rs.mem h2 r2 hu
    exact ⟨y,w,by simp [q1],q2,q3⟩
theorem Rs.mem':∀{xs:An}{vs:List V}{us:Af}{y:PV},Rs K mg ρ H xs vs->Vals vs us->y∈xs->∃u v,u∈us/\R K mg ρ H y v/\RelV v u
 |[],_,_,_,_,_,hy=>by cases hy
 |x::xs,_,_,y,h,hv,hy=>by
  obtain ⟨v,r,rfl,h1,h2⟩:=h
  cases hv with
  |cons r1 r2 =>
   rcases yn.mp hy with rfl|hy
   ·exact ⟨_,v,by simp,h1,r1⟩
   ·obtain ⟨u,w,q1,q2,q3⟩:=Rs.mem' h2 r2 hy
    exact ⟨u,w,by simp [q1],q2,q3⟩
def JM {ys:An}{y:PV}(h:bZ ys=true) (hy:y∈ys):Mi.plain y=true:=by
 obtain ⟨i,hi⟩:=List.getElem?_of_mem hy
 exact oO h hi
def JN {ys:An}{y:PV}(hy:y∈ys):dep y<=eV ys:=by
 obtain ⟨i,hi⟩:=List.getElem?_of_mem hy
 exact rA hi
open Classical in
def Aw (I:Inv X pins σ H s) {A:Around}(hu:A.units+200<cLine) {ys:An}{vs:List V}{us:Af}{x:PV}{w:V}{v:Value}(ok:okIn x ys) (ry:Rs X.K mg ρ H ys vs) (rv:Vals vs us) (rx:R X.K mg ρ H x w) (rw:RelV w v) :
  (∀u∈us,SeqAt.EqAt A.in1 s u v (dP X.K mg ρ H ys x u))/\us.any (dP X.K mg ρ H ys x)=ys.any λy=>bD y x:=by
 obtain ⟨px,py,hd⟩:=ok
 have one:∀y v' u,y∈ys->R X.K mg ρ H y v'->RelV v' u->SeqAt.EqAt A.in1 s u v (bD y x):=λy v' u hy r1 r2 =>
  (rB I 150 y x A.in1 (yW (JN hy) hd) (JM py hy) px r1 rx r2 rw (by rw [xC];omega)).1
 refine ⟨λu Ax=>?_,?_⟩
 ·obtain ⟨y,v',q1,q2,q3⟩:=Rs.mem ry rv Ax
  by_cases h:∃y v,y∈ys/\R X.K mg ρ H y v/\RelV v u/\bD y x=true
  ·have e:dP X.K mg ρ H ys x u=true:=by simpa [dP] using h
   obtain ⟨y2,v2,z1,z2,z3,z4⟩:=h
   rw [e,<-z4]
   exact one y2 v2 u z1 z2 z3
  ·have e:dP X.K mg ρ H ys x u=false:=by unfold dP;exact js h
   rw [e]
   have:bD y x=false:=by
    cases hq:bD y x with
    |false=>rfl
    |true=>exact absurd ⟨y,v',q1,q2,q3,hq⟩ h
   rw [<-this]
   exact one y v' u q1 q2 q3
 ·rw [Bool.eq_iff_iff]
  simp only [List.any_eq_true]
  constructor
  ·rintro ⟨u,Ax,he⟩
   have h:∃y v,y∈ys/\R X.K mg ρ H y v/\RelV v u/\bD y x=true:=by unfold dP at he;exact of_decide_eq_true he
   obtain ⟨y,v',z1,_,_,z4⟩:=h
   exact ⟨y,z1,z4⟩
  ·rintro ⟨y,hy,he⟩
   obtain ⟨u,v',q1,q2,q3⟩:=Rs.mem' ry rv hy
   exact ⟨u,q1,by unfold dP;exact wf ⟨y,v',hy,q2,q3,he⟩⟩
def jv (neg:Bool):Am
 |x,.tup ys,st=>if okIn x ys then .ok (.bl (neg.xor (ys.any λy=>bD y x))) st else .stuck
 |x,.frl ys,st=>if okIn x ys then .ok (.bl (neg.xor (ys.any λy=>bD y x))) st else .stuck
 | x,.ref n,st=>match st[n]?,x with
  |some (.lst ys),x=>if okIn x ys then .ok (.bl (neg.xor (ys.any λy=>bD y x))) st else .stuck
  |some (.dic ks xs),.str z=>.ok (.bl (neg.xor ((ks.zip xs).lookup z).isSome)) st
  |_,_=>.stuck
 |.str ⟨⟨[c]⟩⟩,.str z,st=>.ok (.bl (neg.xor (decide (c∈z.cps.toList)))) st
 |_,_,_=>.stuck
def Ay (K:Frag) (mg:Ab) (neg:Bool):R2:=λv w H Q =>
 (∃ρ x ys vs p,okIn x ys/\w=.ref p/\(a_ K H p vs\/bK K H p vs)/\Rs K mg ρ H ys vs/\R K mg ρ H x v/\Q (.bl (neg.xor (ys.any λy=>bD y x))) H) \/
 (∃p o,w=.ref p/\c_ H p v o/\Q (.bl (neg.xor o.isSome)) H)\/∃(c:Nat) (z:Str),v=.str ⟨#[c]⟩/\w=.str z/\Q (.bl (neg.xor (decide (c∈z.cps.toList)))) H
def JO (hu:X.A.units+200<cLine):bb X (compareOp .In) (Ay X.K X.mg false):=by
 intro pins s σ H x y v u Q I rx ry h
 rcases h with ⟨ρ,a,ys,vs,p,ok,rfl,hq,Az,ra,q⟩|⟨p,o,rfl,g,q⟩|⟨c,z,rfl,rfl,q⟩
 ·obtain rfl:u=Value.ref p:=ry
  rcases hq with hq|hq
  ·obtain ⟨its,r,pl,_⟩:=I.list hq
   obtain ⟨f1,f2⟩:=Aw I hu ok Az r ra rx
   refine SeqAt.in_listAt (dP X.K X.mg ρ H ys a) pl.isList (λw hw=>f1 w (by simpa using hw)) ⟨.bl _,H,I,rfl,?_⟩
   rw [show its.toArray.any (dP X.K X.mg ρ H ys a)=its.any (dP X.K X.mg ρ H ys a) by simp,f2]
   simpa using q
  ·obtain ⟨its,r,pl,_⟩:=I.tuple hq
   obtain ⟨f1,f2⟩:=Aw I hu ok Az r ra rx
   refine SeqAt.in_tupleAt (dP X.K X.mg ρ H ys a) pl (λw hw=>f1 w (by simpa using hw)) ⟨.bl _,H,I,rfl,?_⟩
   rw [show its.toArray.any (dP X.K X.mg ρ H ys a)=its.any (dP X.K X.mg ρ H ys a) by simp,f2]
   simpa using q
 ·obtain rfl:u=Value.ref p:=ry
  exact Hn (by omega) I g rx λs' I'=>⟨.bl o.isSome,H,I',rfl,by simpa using q⟩
 ·exact Hj pins s σ H _ _ v u Q I rx ry ⟨c,z,rfl,rfl,by simpa using q⟩
def JP {neg:Bool}:dh K mg (Ay K mg neg) (jv neg):=by
 intro ρ H st x y v w Q E s rx ry h
 cases y with
 |tup ys =>
  obtain ⟨p,vs,rfl,k1,k2⟩:=ry
  obtain ⟨ok,h⟩:=Out.ifp (show Out K mg ρ H (if okIn x ys then .ok (.bl (neg.xor (ys.any λy=>bD y x))) st else .stuck) (gV K mg Q) E from by cases x<;>exact h)
  exact .inl ⟨ρ,x,ys,vs,p,ok,rfl,.inr k1,k2,rx,h.now s _ rfl⟩
 |frl ys =>
  obtain ⟨p,vs,rfl,k1,k2⟩:=ry
  obtain ⟨ok,h⟩:=Out.ifp (show Out K mg ρ H (if okIn x ys then .ok (.bl (neg.xor (ys.any λy=>bD y x))) st else .stuck) (gV K mg Q) E from by cases x<;>exact h)
  exact .inl ⟨ρ,x,ys,vs,p,ok,rfl,.inl k1.sq,k2,rx,h.now s _ rfl⟩
 |ref n =>
  cases hn:st[n]? with
  |none=>exfalso;cases x<;>(simp only [jv,hn] at h;exact h)
  |some so =>
   cases so with
   |lst ys =>
    obtain ⟨p,vs,rfl,_,k1,k2⟩:=R.refL s ry hn
    obtain ⟨ok,h⟩:=Out.ifp (show Out K mg ρ H (if okIn x ys then .ok (.bl (neg.xor (ys.any λy=>bD y x))) st else .stuck) (gV K mg Q) E from by cases x<;>(simp only [jv,hn] at h;exact h))
    exact .inl ⟨ρ,x,ys,vs,p,ok,rfl,.inl (a_.of k1),k2,rx,h.now s _ rfl⟩
   |dic ks xs =>
    obtain ⟨p,vs,rfl,_,k1,k2,k3⟩:=R.refD s ry hn
    cases x with
    |str z =>
     simp only [jv,hn] at h
     cases rx
     refine .inr (.inl ⟨p,_,rfl,Aq k1,?_⟩)
     have e:((ks.zip vs).lookup z).isSome=((ks.zip xs).lookup z).isSome:=by
      cases hq:(ks.zip xs).lookup z with
      |some q=>obtain ⟨v,hv,_⟩:=iG k2 hq;rw [hv];rfl
      |none =>
       have:z∉ks:=by
        intro hz
        obtain ⟨i,hi⟩:=List.getElem?_of_mem hz
        have hl:i<xs.length:=by rw [k2.len,<-k3];exact (yN.mp hi).1
        have:=List.lookup_eq_none_iff.mp hq (z,xs[i]) (List.mem_iff_getElem?.mpr ⟨i,by simp [List.getElem?_zip_eq_some,hi,hl]⟩)
        simp at this
       rw [oS this];rfl
     rw [e]
     exact h.now s _ rfl
    |_=>simp only [jv,hn] at h;exact h.elim
   |ins c ks xs=>exfalso;cases x<;>(simp only [jv,hn] at h;exact h)
   |fdi ks xs=>exfalso;cases x<;>(simp only [jv,hn] at h;exact h)
   |dit ks xs=>exfalso;cases x<;>(simp only [jv,hn] at h;exact h)
 |str z =>
  cases x with
  |str q =>
   obtain ⟨⟨l⟩⟩:=q
   match l,rx,h with
   |[c],rx,h=>cases rx;cases ry;exact .inr (.inr ⟨c,z,rfl,rfl,Out.now (x:=PV.bl _) h s _ rfl⟩)
   |[],rx,h=>exact h.elim
   |_::_::_,rx,h=>exact h.elim
  |_=>exact h.elim
 |non=>exfalso;cases x<;>exact h
 |bl _=>exfalso;cases x<;>exact h
 |int _=>exfalso;cases x<;>exact h
 |ty _=>exfalso;cases x<;>exact h
 |fn _=>exfalso;cases x<;>exact h
 |kd _ _=>exfalso;cases x<;>exact h
 |exo _ _ _=>exfalso;cases x<;>exact h
def zeJ (hu:X.A.units+200<cLine):bV X .In (jv false):=⟨_,JO hu,JP⟩
end
section
variable {X:Cx} {Er:XK} {pos:Pos}
abbrev XN:XK:=λ_ _ _=>False
def za5:wj X XN:=λ_ _ _ _ _ _ _ _ _ q=>q.elim
def cT (fe:Ai) (env:za):List PV->Al
 |[],ys,st=>.ok (.ref st.length) (st++[.lst ys])
 |x::xs,ys,st=>(bQ (fe (some x::env) st)).bind λy au=>cT fe env xs (ys++[y]) au
def dy (fe:Ai) (env:za) (n:Nat):Nat->Nat->Al
 |0,_,_,_=>.stuck
 | m+1,i,ys,st=>ym st n λxs=>match xs[i]? with
  |none=>.ok (.ref st.length) (st++[.lst ys])
  |some x=>(bQ (fe (some x::env) st)).bind λy au=>dy fe env n m (i+1) (ys++[y]) au
def cU (fe:Ai) (env:za):Sq->Mo PV
 |.im xs,st=>if xs.length<=lim then cT fe env xs [] st else .stuck
 |.rf n,st=>dy fe env n (lim+1) 0 [] st
def yU (src:za->Mo Sq) (fe:Ai):Ai:=λenv st=>(src env st).bind λq au=>cU fe env q au
theorem Rs.snoc {K:Frag}{mg:Ab}{ρ:Ae}{H:Hp}{x:PV}{v:V}(r:R K mg ρ H x v):∀{xs:An}{vs:List V},Rs K mg ρ H xs vs->Rs K mg ρ H (xs++[x]) (vs++[v])
 |[],_,h=>by cases h;exact ⟨v,[],rfl,r,rfl⟩
 |y::xs,_,h=>by
  obtain ⟨w,q,rfl,h1,h2⟩:=h
  exact ⟨w,q++[v],rfl,h1,Rs.snoc r h2⟩
def AA {elt iter:Expr} {x:Str} {px:Pos} {scope:Scope} {src:za->Mo Sq} {fe:Ai} {M:Ad} (hc:X.calm=true) (S:b_ X.env.scope scope x) (eN:Hid scope M X.N) (cX:((".0" : Str)::x::M).Nodup)
  (hi:MI X Er (.Name x px) iter src) (he:∀cl C ae ah fp,ME (gv X M scope cl x C ae ah fp (λ_ _=>False)) XN elt fe)
  (hs:∀v,foldedSetIterable iter X.env v=pure v:=by intro _;rfl):ME X Er (.ListComp elt [⟨.Name x px,iter,[],0⟩] scope pos) (yU src fe) :=
 PE.weak (vW (te:=tM X.K X.mg XN fe) hc S eN cX hi (λcl C ae ah fp=>he cl C ae ah fp) hs) fun σ H Q ⟨env,st,ρ,re,rs,h⟩=>⟨env,st,ρ,re,rs,h.then λal H0 q fA e0 s0 h0 J wk=>by
  cases q with
  |im xs =>
   obtain ⟨hl,h0⟩:=Out.ifp h0
   obtain ⟨w1,w2,w3⟩:=wk
   refine ⟨λi m ys H=>m=xs.length-i/\i<=xs.length/\ys.length=i/\∃ps st ρ,Rs X.K X.mg ρ H ps ys/\aZ X.K X.mg ρ H st/\Ext al H0 ρ H/\Out X.K X.mg ρ H (cT fe env (xs.drop i) ps st) (gV X.K X.mg Q) Er,⟨xs.length,by simp,jP _,rfl,[],fA,al,rfl,s0,Ext.refl,h0⟩,?_⟩
   rintro i m ys H ⟨rfl,hi,hy,ps,st,ρ,dQ,rs,ex,h⟩
   by_cases bg:i<xs.length
   ·refine .inr ⟨w1 i ρ H ex bg,jz (by omega),λv H' y=>?_⟩
    obtain ⟨x,hx,dO,s2,rx⟩:=w3 i ρ H st v H' ex rs bg y
    have hd:xs.drop i=x::xs.drop (i+1):=by
     rw [fJ bg]
     have:=(yN.mp hx).2
     rw [this]
    rw [hd] at h
    simp only [cT] at h
    refine ⟨some x::env,st,ρ,(re.ext (e0.trans (ex.trans dO))).cons rx,s2,iK (Out.ext h dO) λak H3 y ba e3 s3 h3 v ry=>⟨xs.length-(i+1),by omega,rfl,bg,by simp [hy],ps++[y],ba,ak,Rs.snoc ry (Rs.ext (dO.trans e3) ps dQ),s3,(ex.trans dO).trans e3,h3⟩⟩
   ·have e:i=xs.length:=by omega
    subst e
    rw [List.drop_length] at h
    exact .inl ⟨w2 _ ρ H ex (z0 _),jz (by omega),λl hl=>Out.newList h rs dQ hl⟩
  |rf n =>
   obtain ⟨a,ha,rfl⟩:=wk
   refine ⟨λi m ys H=>m+i=lim+1/\ys.length=i/\∃ps st ρ,Rs X.K X.mg ρ H ps ys/\aZ X.K X.mg ρ H st/\Ext al H0 ρ H/\ρ[n]?=some a/\Out X.K X.mg ρ H (dy fe env n m i ps st) (gV X.K X.mg Q) Er,⟨lim+1,rfl,rfl,[],fA,al,rfl,s0,Ext.refl,ha,h0⟩,?_⟩
   rintro i m ys H ⟨hm,hy,ps,st,ρ,dQ,rs,ex,ha,h⟩
   cases m with
   |zero=>exact h.elim
   |succ m =>
    obtain ⟨xs,hn,h⟩:=jB h
    obtain ⟨vs,hH,hR⟩:=rs.addr hn ha
    cases hx:xs[i]? with
    |none =>
     simp only [hx] at h
     have:vs.length<=i:=by rw [<-hR.len];exact hW.mp hx
     exact .inl ⟨⟨vs,a_.of hH,this⟩,jz (by omega),λl hl=>Out.newList h rs dQ hl⟩
    |some x =>
     simp only [hx] at h
     obtain ⟨v,hv,rv⟩:=hR.get hx
     refine .inr ⟨⟨vs,v,a_.of hH,hv⟩,jz (by omega),λv' H' y=>?_⟩
     obtain ⟨e1,y⟩:=y
     subst e1
     have e2:=y vs (a_.of hH)
     rw [hv] at e2
     cases e2
     exact ⟨some x::env,st,ρ,(re.ext (e0.trans ex)).cons rv,rs,iK h λak H3 y ba e3 s3 h3 v ry=>⟨m,wV m,by omega,by simp [hy],ps++[y],ba,ak,Rs.snoc ry (Rs.ext e3 ps dQ),s3,ex.trans e3,e3.get ha,h3⟩⟩⟩
def mK {elt iter:Expr} {x:Str} {px:Pos} {scope:Scope} {src:za->Mo Sq} {fe:Ai} {N:Ad} (hc:X.calm=true) (S:b_ X.env.scope scope x) (eN:X.N=N) (cX:((".0" : Str)::x::N).Nodup)
  (hi:MI X Er (.Name x px) iter src) (he:∀cl C ae ah fp,ME (qK X scope cl x C ae ah fp (λ_ _=>False)) XN elt fe)
  (hs:∀v,foldedSetIterable iter X.env v=pure v:=by intro _;rfl):ME X Er (.ListComp elt [⟨.Name x px,iter,[],0⟩] scope pos) (yU src fe) :=
 AA hc S Hid.refl (eN▸cX) hi he hs
end
section
variable {env:Env} {es:List Expr} {pos:Pos}
abbrev AB (e:Expr) (es:List Expr) (env:Env):Prop:=starEach (e::es) env=(false,eval e env)::starEach es env
def JQ {c j}:AB (.Constant c j pos) es env:=(rfl)
end
end Mi
namespace L2
open PySem PySem.Spec PyProof.Rows PySem.W
abbrev ZB (h:Heap) (z TI TO T:Addr) (f:Bool):Prop:=h.get? z=some { cls:=.type "zip", dict:=none,data:=.fields #[rawInt T,.bool f,.bool false,.ref TI,.ref TO],slots:=#[] }
structure ZS (z TI TO i1 i2 a b:Addr) (xs ys:Array Value) (k:Nat) (h:Heap):Prop where
 zi:(IsZip h z TI TO .none/\∃u v,IsPair h TO u v)\/∃T f o,ZB h z TI TO T f/\h.get? T=some o
 ti:IsPair h TI (.ref i1) (.ref i2)
 s1:xm i1 a xs k h
 s2:xm i2 b ys k h
section
variable {s:Shared} {z TI TO i1 i2 a b:Addr} {k:Nat} {xs ys:Array Value}
def ZS.type (st:ZS z TI TO i1 i2 a b xs ys k s.heap):s.TypeIs (.ref z) "zip" := by
 rcases st.zi with ⟨hz,_⟩|⟨T,f,o,hz,_⟩<;>exact ⟨_,hz,rfl⟩
end
structure Ap (d z TI TO i1 i2 a b:Addr):Prop where
 z:d≠z
 TI:d≠TI
 TO:d≠TO
 i1:d≠i1
 i2:d≠i2
 a:d≠a
 b:d≠b
section
variable {z TI TO i1 i2 a b d:Addr} {xs ys:Array Value}
def ZS.keep {k:Nat}{h h':Heap}(st:ZS z TI TO i1 i2 a b xs ys k h) (P:Ap d z TI TO i1 i2 a b) (hs:Heap.SameBut d h h') (hd:∃o,h'.get? d=some o):ZS z TI TO i1 i2 a b xs ys k h':=by
 have up:∀c o,c≠d->h.get? c=some o->h'.get? c=some o:=λc o n e=>hs.extBut _ _ n e
 obtain ⟨⟨⟨o1,g1,r1⟩,⟨p1,e1,t1⟩⟩,⟨⟨o2,g2,r2⟩,⟨p2,e2,t2⟩⟩⟩:=And.intro st.s1 st.s2
 refine ⟨?_,up _ _ P.TI.symm st.ti,⟨⟨o1,up _ _ P.i1.symm g1,r1⟩,⟨p1,up _ _ P.a.symm e1,t1⟩⟩,⟨⟨o2,up _ _ P.i2.symm g2,r2⟩,⟨p2,up _ _ P.b.symm e2,t2⟩⟩⟩
 rcases st.zi with ⟨hz,u,v,JR⟩|⟨T,f,o,hz,hT⟩
 ·exact .inl ⟨up _ _ P.z.symm hz,u,v,up _ _ P.TO.symm JR⟩
 ·by_cases e:T=d
  ·obtain ⟨o',ho'⟩:=hd
   exact .inr ⟨T,f,o',up _ _ P.z.symm hz,by rw [e];exact ho'⟩
  ·exact .inr ⟨T,f,o,up _ _ P.z.symm hz,up _ _ e hT⟩
end
end L2
namespace Mi
open PySem L2 PySem.W PySem.Spec
section
variable {e:Expr} {x:Str}
def mL (j:Nat):Fl->Mo Fl
 |.nx e,st=>.ok (.nx (e.set j none)) st
 |.rt x,st=>.ok (.rt x) st
 |_,_=>.stuck
end
section
variable {X:Cx} {K:Frag} {mg:Ab} {Er:XK} {e o:Expr} {pos p:Pos} {fo fa:Ai}
def oY (f:Str) (ins:Str->Bool) (o:PV) (st:aj) (k:Nat->Str->Int->Res Fl):Res Fl:=match o with
 | .ref n=>yG st n λc ks xs=>if ins c=true then match (ks.zip xs).lookup f with
  |some (.int i)=>k n c i
  |_=>.stuck
  else .stuck
 |_=>.stuck
def oZ (f:Str) (n:Nat) (c:Str) (i:Int) (y:PV) (env:za) (st:aj):Res Fl:=match y with
 |.int j=>yG st n λc' ks xs=>if c'=c/\ks.length<1000 then .ok (.nx env) (st.set n (.ins c (putK f (.int (i+j)) ks xs).1 (putK f (.int (i+j)) ks xs).2)) else .stuck
 |_=>.stuck
def w9 (f:Str) (ins:Str->Bool) (fo fv:Ai):Aj:=λenv st=>(fo env st).bind λo au=>oY f ins o au λn c i=>(fv env au).bind λy aK=>oZ f n c i y env aK
def zdg {f:Str}{ins exc:Str->Bool}{kA:Pos}(F:FldF X.K X.mg f ins exc) (ho:ME X Er o fo) (he:ME X Er e fa):MS X Er (.AugAssign (.Attribute o f kA) .Add e pos) (w9 f ins fo fa) :=
 PS.weak (FU ho he FY) λD σ H ⟨env,st,ρ,re,rs,h⟩=>⟨env,st,ρ,re,rs,h.then λaa H1 x au e1 s1 h1 v rv=>by
  cases x with
  |ref n =>
   obtain ⟨c,ks,xs,hn,h1⟩:=oM h1
   obtain ⟨hc,h1⟩:=Out.ifp h1
   cases hl:(ks.zip xs).lookup f with
   |none=>simp only [hl] at h1;exact h1.elim
   |some y =>
    cases y with
    |int i =>
     simp only [hl] at h1
     obtain ⟨p,rfl,hp⟩:=rv
     obtain ⟨C',dx,vs,hC',hH,hR,hlen⟩:=s1.addr hn hp
     obtain ⟨C,hC,cl,na⟩:=F.i c hc
     rw [hC] at hC'
     cases hC'
     obtain ⟨v,hv,rv⟩:=iG hR hl
     cases rv
     refine ⟨p,_,dx,_,_,rfl,hH,cl,na,hv,env,au,aa,re.ext e1,s1,h1.then λai H2 y aK e2 s2 h2 w rw=>?_⟩
     cases y with
     |int j =>
      obtain ⟨c2,JS,xs2,eo,h2⟩:=oM h2
      obtain ⟨⟨gn,AD⟩,h2⟩:=Out.ifp h2
      subst gn
      cases rw
      have cY:=e2.get hp
      obtain ⟨C2,rP,iC,hC2,fq,JT,eP⟩:=s2.addr eo cY
      rw [hC] at hC2
      cases hC2
      obtain ⟨ws,k1,k2,k3⟩:=zev (f:=f) (x:=PV.int (i+j)) (v:=V.int (i+j)) (K:=X.K) (mg:=X.mg) (ρ:=ai) (H:=H2) rfl eP JT
      refine ⟨i,j,rfl,rfl,rP,_,fq,?_,?_⟩
      ·rw [List.length_zip,<-eP];omega
      ·have ew:Ext ai H2 ai (upd H2 p (.ins C' rP (bJ f (V.int (i+j)) (JS.zip iC)))):=Ext.write fq rfl
       exact h2 ai _ ew (s2.write cY ew ⟨_,rP,ws,hC,by rw [yD,k1],Rs.ext ew _ k2,k3⟩) σ (((re.ext e1).ext e2).ext ew)
     |_=>exact h2.elim
    |_=>simp only [hl] at h1;exact h1.elim
  |_=>exact h1.elim⟩
def strsOf:List PV->Option (Ad)
 |[]=>some []
 |.str z::r=>(strsOf r).map (z::·)
 |_::_=>none
theorem rQ {ρ:Ae}{H:Hp}:∀{xs:An}{zs:Ad}{vs:List V},strsOf xs=some zs->Rs K mg ρ H xs vs->vs=(zs.map Sum.inr:List Key).map kV
 |[],zs,vs,e,h=>by cases e;cases h;rfl
 |.str z::r,zs,vs,e,h=>by
  simp only [strsOf,Option.map_eq_some_iff] at e
  obtain ⟨zr,e1,rfl⟩:=e
  obtain ⟨v,r',rfl,h1,h2⟩:=h
  cases h1
  rw [rQ e1 h2]
  rfl
 |.non::_,_,_,e,_=>by cases e
 |.bl _::_,_,_,e,_=>by cases e
 |.int _::_,_,_,e,_=>by cases e
 |.ty _::_,_,_,e,_=>by cases e
 |.tup _::_,_,_,e,_=>by cases e
 |.frl _::_,_,_,e,_=>by cases e
 |.ref _::_,_,_,e,_=>by cases e
 |.fn _::_,_,_,e,_=>by cases e
 |.kd _ _::_,_,_,e,_=>by cases e
 |.exo _ _ _::_,_,_,e,_=>by cases e
end
section
variable {Er:XK}
def iN:List PV->Mo Nat
 |[.ref n],st=>ym st n λ_=>.ok n st
 |_,_=>.stuck
def AE {U:Type}{K:Frag}{mg:Ab}{ρ:Ae}{H:Hp}{vs:An}{st:aj}{f:Nat->Mo U}{good:List Addr->Hp->U->aj->Prop}(h:Out K mg ρ H ((iN vs st).bind f) good Er):∃n xs,vs=[.ref n]/\st[n]?=some (.lst xs)/\Out K mg ρ H (f n st) good Er:=by
 unfold iN at h
 split at h
 ·rename_i n
  unfold ym at h
  cases hn:st[n]? with
  |none=>simp only [hn] at h;exact h.elim
  |some so =>
   cases so with
   |lst xs=>simp only [hn] at h;exact ⟨n,xs,rfl,hn,h⟩
   |_=>simp only [hn] at h;exact h.elim
 ·exact h.elim
end
end Mi
namespace L2
open PySem PySem.Spec PyProof.Rows PySem.W
theorem AF:∀{is:List Int}{its:Af},Vals (is.map V.int) its->(∀v∈its,∃a t,v=Value.int a t)/\numsOf its=is
 |[],_,.nil=>⟨λ_ h=>absurd h (by simp),rfl⟩
 |i::is,_,.cons r rs=>by
  obtain ⟨t,rfl⟩:=r
  obtain ⟨h1,h2⟩:=AF rs
  refine ⟨λv hv=>?_,by show i::numsOf _=_;rw [h2]⟩
  rcases yn.mp hv with q|q
  ·exact ⟨i,t,q⟩
  ·exact h1 v q
def JU {X:Cx} (hc:X.calm=true):bq X (.builtin "sum") (λxs H Q=>∃(a:Addr) (is:List Int),xs=[V.ref a]/\a_ X.K H a (is.map V.int)/\Q (.int is.sum) H):=by
 intro pins s σ H xs us Q I r h
 obtain ⟨a,is,rfl,hq,q⟩:=h
 obtain ⟨u,rfl,ru⟩:=r.one
 obtain rfl:u=Value.ref a:=ru
 obtain ⟨its,rv,p,hz⟩:=I.list hq
 obtain ⟨h1,h2⟩:=AF rv
 obtain ⟨ys,e⟩:=AllInts.items (vs:=its.toArray) (λv hv=>h1 v (by simpa using hv))
 have hl:=p.isList
 rw [e] at hl
 refine sum_intListG (I.ok.hd hc) hl λh' tk t' hk=>?_
 have es:preSum (numAt ys) ys.size=is.sum:=by
  rw [preSum_eq,List.take_of_length_le (by simp),<-nums_intItems,<-e]
  show (numsOf its).sum=_
  rw [h2]
 rw [es]
 exact ⟨.int is.sum,H,I.kept (t':=tk) hk,⟨_,rfl⟩,q⟩
def bF (z:Str) (n:Int):Str:=if n<1 then Str.empty else if (n==1||z.length==0)=true then z else ⟨(List.replicate n.toNat z.cps).foldl (·++·) #[]⟩
theorem AG (c:Array Nat):∀(k:Nat) (a:Array Nat),((List.replicate k c).foldl (·++·) a).size=a.size+k*c.size
 |0,a=>by simp
 |k+1,a=>by
  rw [List.replicate_succ,List.foldl_cons,AG c k,Array.size_append,Nat.succ_mul]
  omega
def AH (z:Str) (n:Int):(bF z n).length=n.toNat*z.length:=by
 unfold bF
 split
 ·rename_i h
  have:n.toNat=0:=by omega
  rw [this,Nat.zero_mul];rfl
 ·rename_i h
  split
  ·rename_i h2
   simp only [Bool.or_eq_true,beq_iff_eq] at h2
   rcases h2 with h2|h2
   ·subst h2;simp
   ·rw [h2];simp
  ·show ((List.replicate n.toNat z.cps).foldl (·++·) #[]).size=_
   rw [AG]
   show 0+n.toNat*z.cps.size=_
   rw [Nat.zero_add];rfl
def AI:R2:=λx y H Q=>∃z n,x=.str z/\y=.int n/\(0<=n/\n<=1000/\z.length<=1000)/\Q (.str (bF z n)) H
def JV {X:Cx}:bb X (binaryOp .Mult) AI:=by
 intro pins s σ H x y v u Q I rx ry h
 obtain ⟨z,n,rfl,rfl,⟨h0,h1,h2⟩,q⟩:=h
 obtain ⟨t,rfl⟩:=rx
 obtain ⟨t',rfl⟩:=ry
 have hb:n.toNat*z.length<=1000000:=by
  have:n.toNat<=1000:=by omega
  calc n.toNat*z.length<=1000*1000:=Nat.mul_le_mul this h2
   _=1000000:=rfl
 have hsz:=sizeLine_eq
 refine PySem.P.mul_str (by rw [js (by omega),js (by omega)];rfl) (λha _=>?_) (λ_ _=>?_) ?_
 ·have:(2 ^ 63-1:Int)/n>=1000:=by
   rw [ge_iff_le,Int.le_ediv_iff_mul_le (by omega)]
   omega
  omega
 ·show decide _=false
  rw [decide_eq_false_iff_not]
  have:z.length*n.toNat<=1000000:=by rw [Nat.mul_comm];exact hb
  rw [sizeLine_eq];omega
 ·by_cases c1:n<1
  ·rw [zj c1]
   have e:bF z n=Str.empty:=by unfold bF;rw [zj c1]
   rw [e] at q
   exact ⟨by decide,.str Str.empty,H,I.tok _,⟨_,rfl⟩,q⟩
  ·rw [zx c1]
   by_cases c2:(n==1||z.length==0)=true
   ·rw [zj c2]
    have e:bF z n=z:=by unfold bF;rw [zx c1,zj c2]
    rw [e] at q
    exact ⟨.str z,H,I,⟨_,rfl⟩,q⟩
   ·rw [zx c2]
    have e:bF z n=⟨(List.replicate n.toNat z.cps).foldl (·++·) #[]⟩:=by unfold bF;rw [zx c1,zx c2]
    have hl:=AH z n
    rw [e] at q hl
    exact ⟨by rw [hl,sizeLine_eq];omega,.str _,H,I.tok _,⟨_,rfl⟩,q⟩
end L2
namespace Mi
open PySem L2 PySem.W PySem.Spec
section
variable {X:Cx} {K:Frag} {mg:Ab} {Er:XK} {e:Expr} {es:List Expr}
def jk:Am
 |.int i,.int j,st=>rk (.int i) (.int j) st
 |.str z,.int n,st=>if 0<=n/\n<=1000/\z.length<=1000 then .ok (.str (bF z n)) st else .stuck
 |_,_,_=>.stuck
def zaz:cS X .Mult jk:=by
 obtain ⟨r,h1,h2⟩:=xx (X:=X)
 refine ⟨λx y H Q=>r x y H Q\/AI x y H Q,h1.or JV,fun ρ H st x y v w Q E s rx ry h=>?_⟩
 cases x with
 |int i =>
  cases y with
  |int j=>exact .inl (h2 ρ H st (.int i) (.int j) v w Q E s rx ry h)
  |_=>exact h.elim
 |str z =>
  cases y with
  |int n =>
   obtain ⟨c,h⟩:=Out.ifp h
   cases rx;cases ry
   exact .inr ⟨z,n,rfl,rfl,c,Out.now (x:=PV.str (bF z n)) h s _ rfl⟩
  |_=>exact h.elim
 |_=>exact h.elim
def di:List PV->Option (List Int)
 |[]=>some []
 |.int i::r=>(di r).map (i::·)
 |_::_=>none
theorem AJ {ρ:Ae}{H:Hp}:∀{xs:An}{is:List Int}{vs:List V},di xs=some is->Rs K mg ρ H xs vs->vs=is.map V.int
 |[],is,vs,e,h=>by cases e;cases h;rfl
 |.int i::r,is,vs,e,h=>by
  simp only [di,Option.map_eq_some_iff] at e
  obtain ⟨ir,e1,rfl⟩:=e
  obtain ⟨v,r',rfl,h1,h2⟩:=h
  cases h1
  rw [AJ e1 h2]
  rfl
 |.non::_,_,_,e,_=>by cases e
 |.bl _::_,_,_,e,_=>by cases e
 |.str _::_,_,_,e,_=>by cases e
 |.ty _::_,_,_,e,_=>by cases e
 |.tup _::_,_,_,e,_=>by cases e
 |.frl _::_,_,_,e,_=>by cases e
 |.ref _::_,_,_,e,_=>by cases e
 |.fn _::_,_,_,e,_=>by cases e
 |.kd _ _::_,_,_,e,_=>by cases e
 |.exo _ _ _::_,_,_,e,_=>by cases e
def mM:Al:=λvs st=>(iN vs st).bind λn st=>ym st n λxs=>match di xs with
 |some is=>.ok (.int is.sum) st
 |none=>.stuck
def JW (hc:X.calm=true):bX X (.builtin "sum") mM:=⟨_,JU hc,fun ρ H st xs vs Q E s r h=>by
 obtain ⟨n,ys,rfl,hn,h⟩:=AE h
 obtain ⟨eZ,cE,h⟩:=jB h
 obtain ⟨v,rfl,rv⟩:=r.one
 obtain ⟨a,rfl,ha⟩:=rv
 obtain ⟨ws,hH,hR⟩:=s.addr cE ha
 cases hi:di eZ with
 |none=>simp only [hi] at h;exact h.elim
 |some is =>
  simp only [hi] at h
  have e:=AJ hi hR
  subst e
  exact ⟨a,is,rfl,a_.of hH,Out.now (x:=PV.int is.sum) h s _ rfl⟩⟩
def JX:bootBuiltins "sum" = some (.builtin "sum"):=by decide +kernel
def jW:Al
 |[.int i],st=>if i.natAbs.log2<1920 then .ok (.str (toString i)) st else .stuck
 |_,_=>.stuck
def JY:bX X (.type "str") jW:=⟨_,FG,fun ρ H st xs vs Q E s r h=>by
 unfold jW at h
 split at h
 ·rename_i i
  obtain ⟨c,h⟩:=Out.ifp h
  obtain ⟨v,rfl,rfl⟩:=r.one
  exact ⟨i,rfl,c,Out.now (x:=PV.str (toString i)) h s _ rfl⟩
 ·exact h.elim⟩
theorem Rs.reverse {ρ:Ae}{H:Hp}:∀{xs:An}{vs:List V},Rs K mg ρ H xs vs->Rs K mg ρ H xs.reverse vs.reverse
 |[],_,h=>by cases h;rfl
 |x::xs,_,h=>by
  obtain ⟨v,r,rfl,h1,h2⟩:=h
  rw [List.reverse_cons,List.reverse_cons]
  exact (Rs.reverse h2).append ⟨v,[],rfl,h1,rfl⟩
def mO:List Expr->Option (Ad)
 |[]=>some []
 |.Constant (.str z) _ _::r=>(mO r).map (z::·)
 |_::_=>none
def wK (zs:Ad):Ah:=λ_ st=>.ok (zs.map PV.str) st
def zaB:∀{es:List Expr}{zs:Ad},mO es=some zs->MA X Er es (wK zs):=by
 intro es
 induction es with
 |nil=>intro zs h;cases h;exact zp
 |cons e r ih =>
  intro zs h
  cases e with
  |Constant c j p =>
   cases c with
   |str z =>
    simp only [mO,Option.map_eq_some_iff] at h
    obtain ⟨zr,h1,rfl⟩:=h
    exact xu zP (ih h1) JQ
   |_=>cases h
  |_=>cases h
end
section
variable {env:za} {st:aj} {fe:Ai} {fs:Ah} {src:za->Mo Sq}
@[simp] def o5 (n:Nat) (i:Int):z9 (.ref n) (.int i) st=ym st n λxs=>cD (cN xs i) st:=(rfl)
@[simp] def AK (z:Str) (i:Int):z9 (.str z) (.int i) st=if z.length<=lim then cD ((cN z.cps.toList i).map λc=>.str ⟨#[c]⟩) st else .stuck:=(rfl)
@[simp] def gQ:yU src fe env st=(src env st).bind λq au=>cU fe env q au:=(rfl)
@[simp] def lg (xs:An):cU fe env (.im xs) st=if xs.length<=lim then cT fe env xs [] st else .stuck:=(rfl)
@[simp] def AL:bT fs env st=(fs env st).bind iJ:=(rfl)
@[simp] def JZ (j:Int):iJ [.int j] st=if cR j=true then .ok (.im (nums 0 j.toNat)) st else .stuck:=(rfl)
@[simp] def Pl (n:Nat):iN [.ref n] st=ym st n λ_=>.ok n st:=(rfl)
@[simp] def rR (zs:Ad):wK zs env st=.ok (zs.map PV.str) st:=(rfl)
@[simp] def AO (i:Int):jW [.int i] st=if i.natAbs.log2<1920 then .ok (.str (toString i)) st else .stuck:=(rfl)
@[simp] def J1 (i j:Int):jk (.int i) (.int j) st=if cx i j=true then .ok (.int (i*j)) st else .stuck:=(rfl)
@[simp] def Pn (vs:An):mM vs st=(iN vs st).bind λn st=>ym st n λxs=>match di xs with|some is=>.ok (.int is.sum) st|none=>.stuck:=(rfl)
@[simp] def rS (n:Nat):oR [.ref n] st=ym st n λxs=>.ok (.tup xs) st:=(rfl)
@[simp] def rT (n:Nat) (y:PV):gP (.ref n) y st=ym st n λxs=>if xs.length<lim then .ok .non (st.set n (.lst (xs++[y]))) else .stuck:=(rfl)
end
def Pre (a b:aj):Prop:=∃d,b=a++d
def Pre.of (st d:aj):Pre st (st++d):=⟨d,rfl⟩
def Pre.get {a b:aj}(h:Pre a b) {n:Nat}{so:SO}(e:a[n]?=some so):b[n]?=some so:=by
 obtain ⟨d,rfl⟩:=h
 rw [gj (yN.mp e).1]
 exact e
def yo (st:aj) (so:SO):(st++[so])[st.length]?=some so:=by simp
section
variable {X:Cx} {Er:XK}
inductive rV (X:Cx) (Er:XK):List (Option Expr)->List Expr->List Str->List (Ai)->Prop
 |nil:rV X Er [] [] [] []
 |cons {z:Str} {j} {p:Pos} {v:Expr} {f:Ai} {ks:List (Option Expr)} {vs:List Expr} {zs:Ad} {fs:List (Ai)} (hv:ME X Er v f) (hr:rV X Er ks vs zs fs):rV X Er (some (.Constant (.str z) j p)::ks) (v::vs) (z::zs) (f::fs)
end
def J2:bootBuiltins "max" = some (.builtin "max"):=by decide +kernel
def qg (f:PV->PV->Option Bool):List PV->List PV->Option Bool
 |[],[]=>some true
 | x::xs,y::ys=>match f x y,qg f xs ys with
  |some a,some b=>some (a&&b)
  |_,_=>none
 |_,_=>some false
def mP (f:PV->PV->Option Bool) (dz:Ad) (eZ:An):List Str->List PV->Option Bool
 | k::ks,x::xs=>match (dz.zip eZ).lookup k with
  |none=>some false
  | some y=>match f x y,mP f dz eZ ks xs with
   |some a,some b=>some (a&&b)
   |_,_=>none
 |_,_=>some true
def J3 (P:Program) (W:World) (A:Around) (s:Shared) (u u':Value) (b:Bool):Prop:=∀(E:Aa) (Q:Bool->Shared->Prop),Q b s->wpAny (model P W) A (eqBool u u') Q E s
def J4 {k:Str}{ks:Ad}{v:V}{vs:List V}{us:List (Key×Value)}(h:KV (kz (k::ks) (v::vs)) us):∃u r,us=(Sum.inr k,u)::r/\RelV v u/\KV (kz ks vs) r:=by
 cases h with
 |@cons p q ps qs h t =>
  obtain ⟨h1,h2⟩:=h
  obtain ⟨k',u⟩:=q
  have:k'=Sum.inr k:=h1.symm
  subst this
  exact ⟨u,qs,rfl,h2,t⟩
section
variable {X:Cx} {Er:XK} {K:Frag} {mg:Ab}
theorem cP:∀{ks:Ad}{us:Af},us.length=ks.length->(∀(j:Nat) v,us[j]?=some v->∃k,ks[j]?=some k/\∃t,v=Value.str k t)->Vals (ks.map V.str) us
 |[],[],_,_=>.nil
 |[],_::_,h,_=>by simp at h
 |_::_,[],h,_=>by simp at h
 |k::ks,u::us,h,hv=>by
  obtain ⟨k',e,t,ev⟩:=hv 0 u rfl
  simp at e
  subst e
  exact .cons ⟨t,ev⟩ (cP (by simpa using h) λj v e=>by simpa using hv (j+1) v (by simpa using e))
def zo3 {h:Heap}{C:Addr}{c:Str}(X:K.In h) (G:h.Ns mainGlobals mg) (aC:nsIn K mainGlobals c=some (some (.ref C))):∃C D,mg c=some (.ref C)/\mg c=some (.ref D)/\kitOne K (.ref C) (.ref D)=some true:=⟨C,C,mg_of X G aC,mg_of X G aC,by unfold kitOne;rw [zj (by simp)]⟩
def mQ {ss:List Stmt}:df X Er ss k8:=b6.weak E3 λD σ H ⟨env,st,ρ,re,rs,h⟩=>h
end
section
variable {P:Program} {W:World} {A:Around} {s:Shared} {K:Type} [DecidableEq K]
inductive fT (P:Program) (W:World) (A:Around) (s:Shared) (kb:List (K×Value)):List (K×Value)->Bool->Prop
 |nil:fT P W A s kb [] true
 |miss {k:K} {v:Value} {r:List (K×Value)} (h:valueAt kb k=none):fT P W A s kb ((k,v)::r) false
 |hit {k:K} {v y:Value} {r:List (K×Value)} {e b:Bool} (h:valueAt kb k=some y) (he:J3 P W A s v y e) (hr:fT P W A s kb r b):fT P W A s kb ((k,v)::r) (e&&b)
end
def rW:Option SO->Bool
 |some (.dic _ _)=>true
 |_=>false
def mR (st:aj):PV->Option Nat
 |.int _=>some 0
 |.str _=>some 1
 |.tup _=>some 2
 |.ref a=>if rW st[a]?=true then some 3 else none
 |_=>none
def AQ (f:PV->PV->Option Bool):Option SO->Option SO->Option Bool
 |some (.dic ks xs),some (.dic dz eZ)=>if ks.Nodup/\ks.length=xs.length then if ks.length=dz.length then mP f dz eZ ks xs else some false else none
 |_,_=>none
section
variable {K:Frag} {mg:Ab} {ρ:Ae} {H:Hp} {st:aj}
inductive Kn (K:Frag) (mg:Ab) (ρ:Ae) (H:Hp) (st:aj):PV->V->Nat->Prop
 |num (i:Int):Kn K mg ρ H st (.int i) (.int i) 0
 |txt (z:Str):Kn K mg ρ H st (.str z) (.str z) 1
 |row {xs:An} {a:Addr} {vs:List V} (h:bK K H a vs) (r:Rs K mg ρ H xs vs):Kn K mg ρ H st (.tup xs) (.ref a) 2
 |rec_ {n:Nat} {a:Addr} {ks:Ad} {xs:An} {vs:List V} (e:st[n]?=some (.dic ks xs)) (ha:ρ[n]?=some a) (h:H a=some (.dK (kz ks vs))) (r:Rs K mg ρ H xs vs) (l:ks.length=vs.length):Kn K mg ρ H st (.ref n) (.ref a) 3
inductive mS (st:aj) (f:PV->PV->Option Bool):PV->PV->Bool->Prop
 |num (a b:Int):mS st f (.int a) (.int b) (a==b)
 |txt (a b:Str):mS st f (.str a) (.str b) (a==b)
 |row {xs ys:An} {k:Bool} (h:qg f xs ys=some k):mS st f (.tup xs) (.tup ys) k
 |rec_ {a b:Nat} {k:Bool} (h:AQ f st[a]? st[b]?=some k):mS st f (.ref a) (.ref b) k
 |apart {x y:PV} {i j:Nat} (hx:mR st x=some i) (hy:mR st y=some j) (h:i≠j):mS st f x y false
end
section
open Classical in
open Classical in
end
end Mi
namespace L2
open PySem PySem.Spec PyProof.Rows
def J5 (iy:Nat) (wi:TI) (te:TE):TS:=λD σ H=>wi σ H λJ H1=>ic J te σ (λv H2=>D.nx (σ.set iy (some v)) H2) H1
def J6 {X:Cx} {elt iter:Expr} {x y:Str} {px pos pos' gR:Pos} {scope:Scope} {wi:TI} {te:TE} {M:Ad} {iy:Nat} (hc:X.calm=true) (S:b_ X.env.scope scope x) (eN:Hid scope M X.N) (cX:((".0" : Str)::x::M).Nodup)
  (hi:PI X (.Name x px) iter wi) (he:∀cl C ae ah fp,PE (gv X M scope cl x C ae ah fp (λ_ _=>False)) elt te) (rX:X.N.Nodup) (rY:X.N[iy]?=some y) (hy:Loc X.env.scope y) (rZ:X.fn y=true\/X.env.scope.names.lookup y=some .local)
  (e7:swapsWith (.ListComp elt [⟨.Name x px,iter,[],0⟩] scope pos) (some (.Name y pos')) gR.line X.env=pure true) (hs:∀v,foldedSetIterable iter X.env v=pure v:=by intro _;rfl):PS X (.Assign [.Name y pos'] (.ListComp elt [⟨.Name x px,iter,[],0⟩] scope pos) gR) (J5 iy wi te):=by
 intro pins s σ H Dn I h
 have hN:(x::M).Nodup:=(wC.mp cX).2
 have qO:(".0" : Str)∉M:=λz=>(wC.mp cX).1 (yd _ z)
 obtain ⟨cl,ig,cq,gy⟩:=vS X.env scope λp hp hf=>I.ok.has p.1 (.inl (S.free p hp hf))
 have ik:X.env.scope.kind=.function:=I.ok.kind
 rw [exec_Assign_Name_used _ _ _ _ e7]
 refine zy (wpAny_standAt ?_)
 rw [arm_evalThenUse_ListComp]
 refine zy (zy (wpAny_comprehension_free (Q:=λ_ s'=>wpAny (model X.prog X.w) X.A (pure ():Sem Unit) (λ_ s'=>wpAny (model X.prog X.w) X.A (pure .next:Sem Flow) (SP X pins Dn) X.xe s') X.xe s') (use:=some (assign (.Name y pos') X.env)) rfl hs ig S.kind (λy hy hl=>(S.names y hy hl).1) ?_))
 refine aO (hi pins s σ H _ I h) λv s1 h1=>aO h1 λnP ae h2=>?_
 obtain ⟨it,fp,tn,J,H2,e,I2,T,aK,f2,W,⟨m0,w0⟩,turn⟩:=h2
 subst e
 refine hG (wpAny_newFunctionEnv S.ncell (by intro y hy;simp at hy) (λaq aw av=>?_) S.kind)
 dsimp only at aw av ⊢
 generalize fq:ae.heap.push { cls:=.type "list", dict:=none,data:=.seq ([]:Af).toArray }=G2 at aw av ⊢
 have hC:G2.objs.size=ae.heap.objs.size+1:=by rw [<-fq,Heap.size_push]
 have fw:ae.heap.objs.size≠G2.objs.size:=by rw [hC];exact yB (wV _)
 have vV:ae.heap.objs.size<=G2.objs.size:=by rw [hC];exact Nat.le_succ _
 have old:∀b o,ae.heap.get? b=some o->aq.get? b=some o:=λb o e=>by
  have hb:b≠G2.objs.size:=by rw [hC];exact yB (Nat.lt_succ_of_lt (yb e))
  exact av.extBut b o hb (z8 _ (fq▸z8 _ e))
 have fG:aq.get? ae.heap.objs.size=some { cls:=.type "list", data:=.seq (#[]:Array Value) 0 }:=av.extBut _ _ fw (z8 _ (fq▸yV _ rfl))
 generalize hD:ae.heap.objs.size=D at *
 generalize hCC:G2.objs.size=C at *
 have dm:∀{b:Nat} {o:Obj},ae.heap.get? b=some o->b<D:=λe=>by rw [<-hD];exact yb e
 have nofr:∀b,D<=b->b∉cg X.stack:=λb hb z=>by
  rcases yn.mp (I2.stkSub b z) with q|q
  ·exact vO I2.lt hD hb q
  ·exact I2.nofs (by rw [hD];exact hb) q
 let E':Aa:=notedBy (model X.prog X.w) X.A (compEnvC scope cl C X.env) λe s'=>compPost (model X.prog X.w) X.A X.xe (some (assign (.Name y pos') X.env)) (λ_ s'=>wpAny (model X.prog X.w) X.A (pure ():Sem Unit) (λ_ s'=>wpAny (model X.prog X.w) X.A (pure .next:Sem Flow) (SP X pins Dn) X.xe s') X.xe s') (.ref D) C (.error e) s'
 let Y:Cx:=gv X M scope cl x C ae H2 fp E'
 have cO:∀b∈fp,c6 X pins H2 b:=f2
 have il:Y.Ok:=by
  refine ⟨I2.ok.mod,S.kind,I2.ok.glob,I2.ok.blt,(by show ae.heap.objs.size<=C;omega),λy z c h1 h2=>?_,λy hy=>?_,λy c hf=>?_,I2.ok.hd,I2.ok.frames,.inl rfl,λb hb=>?_,I2.bs,yW I2.ok.bsz I2.sz,λb o hb hx=>?_,λb hb hx=>?_,I2.stack,I2.stkFree⟩
  ·exact I2.ok.inj y z c (cq y c h1) (cq z c h2)
  ·exact gy y (qL S ik hy)
  ·cases hf
  ·refine ⟨λz=>?_,λy c hy=>(cO b hb).2.2.2.2.1 y c (cq y c hy)⟩
   obtain ⟨o,ho,_⟩:=T.obj 0 _ aK b hb
   exact ib (dm ho) hC z
  ·rcases (cO b hx).2.2.2.1 with z|z
   ·exact I2.ok.noex b o hb z
   ·exact vP (yb hb) I2.ok.bsz z
  ·rcases yn.mp (I2.stkSub b hx) with q|q
   ·exact (cO b hb).2.1 q
   ·exact (cO b hb).2.2.1 q
 have dY:∀{s':Shared} {H':Hp} {o:Obj},s'.heap.get? D=some o->H' D=none->(∀v,o.data ≠ .cell v)->∀p∈[(D,o)],s'.heap.get? p.1=some p.2/\H' p.1=none/\p.1≠Y.env.locals/\p.1∉Y.fs/\∀v,p.2.data ≠ .cell v:=λ{s' H' o} e1 e2 e3 p hp=>by
  have ep:p=(D,o):=by simpa using hp
  subst ep
  exact ⟨e1,e2,fw,nofr D (z0 _),e3⟩
 have I0:Inv Y [(D,{ cls:=.type "list", data:=.seq (#[]:Array Value) 0 })] (none::σ) H2 { ae with heap:=aq,toks:=ae.toks+([]:List (Str×Value)).length }:=by
  have fresh:∀b,D<=b->H2 b=none:=λb hb=>I2.hok.fresh (by rw [hD];exact hb)
  refine ⟨il,rfl,I2.bare,Un.kept old,⟨_,aw,λi y v e1 e2 e3=>?_⟩,λy c hy=>?_,fresh C (by omega),λy c hy=>I2.freeC y c (cq y c hy),λp hp=>dY fG (fresh D (z0 _)) (λv z=>by cases z) p hp,I2.hok.kept old,?_⟩
  ·cases i with
   |zero=>simp at e2
   |succ i =>
    have mh:M[i]?=some y:=by simpa [Y,gv] using e1
    have qP:X.N[i]?=some y:=by
     rcases eN.get mh with q|q
     ·exact q
     ·refine absurd ?_ q
      rcases e3 with e3|e3|e3<;>(obtain ⟨k0,hm,_⟩:=gw e3;exact j1.mpr ⟨_,hm,rfl⟩)
    have qQ:σ[i]?=some (some v):=by simpa using e2
    have mi:¬(y=x\/y = ".0"):=λz=>by
     have hm:=jy mh
     rcases z with z|z
     ·rw [z] at hm
      exact (wC.mp hN).1 hm
     ·rw [z] at hm
      exact qO hm
    have cz:(y,NameKind.free)∈scope.names:=by
     rcases e3 with e3|e3|e3
     ·exact absurd (vT S e3) mi
     ·exact qL S ik (.inl e3)
     ·exact qL S ik (.inr e3)
    have mj:X.env.scope.names.lookup y=some .cell:=S.free _ cz rfl
    obtain ⟨m,hn,hl⟩:=I2.loc
    obtain ⟨u,r,l⟩:=hl i y v qP qQ (.inr (.inl mj))
    refine ⟨u,r,?_⟩
    rcases l with ⟨hk,_⟩|⟨_,c,gn,dW⟩
    ·have:X.env.kindOf y=some .cell:=mj
     rw [this] at hk;cases hk
    ·obtain ⟨c',eh⟩:=gy y cz
     have:=cq y c' eh
     rw [gn] at this
     cases this
     refine .inr ⟨?_,c,eh,?_⟩
     ·rcases e3 with e3|e3|e3
      ·exact absurd (vT S e3) mi
      ·exact .inl e3
      ·exact .inr e3
     ·obtain ⟨o,ho,hd⟩:=dW
      exact ⟨o,old c o ho,hd⟩
  ·obtain ⟨v,o,ho,hd⟩:=I2.cell y c (cq y c hy)
   exact ⟨v,o,old c o ho,hd⟩
  ·show (none::σ).length=(x::M).length
   simp [I2.len,eN.1]
 have iq:∀{pl:Ac} {H':Hp},(∀p∈pl,p.1=D)->(∀b∈fp,H' b=none)->∀b∈fp,c6 Y pl H' b:=λ{pl H'} bj hn b hb=>by
  obtain ⟨o,ho,_⟩:=T.obj 0 _ aK b hb
  refine ⟨hn b hb,λz=>?_,?_,.inl hb,(il.exf b hb).2,λp hp z=>?_⟩
  ·exact ib (dm ho) hC z
  ·exact il.exfs b hb
  ·have hp':p∈pl:=by simpa [Y,gv] using hp
   exact vQ (dm ho) (bj p hp') z
 have loop:codeAny (model X.prog X.w) X.A (.compLoop (.ListComp elt [⟨.Name x px,iter,[],0⟩] scope pos) 0 (.ref it) (.ref D) (compEnvC scope cl C X.env))
   (compPost (model X.prog X.w) X.A X.xe (some (assign (.Name y pos') X.env)) (λ_ s'=>wpAny (model X.prog X.w) X.A (pure ():Sem Unit) (λ_ s'=>wpAny (model X.prog X.w) X.A (pure .next:Sem Flow) (SP X pins Dn) X.xe s') X.xe s') (.ref D) C) { ae with heap:=aq,toks:=ae.toks+([]:List (Str×Value)).length }:=by
  refine G5 (λn s'=>∃i ys H' its k,Inv Y [(D,{ cls:=.type "list", data:=.seq (its:Af).toArray k })] (none::σ) H' s'/\Vals ys its/\tn i s'.heap/\(∀b∈fp,H' b=none)/\W i n ys H') ?_ m0
   ⟨0,[],H2,[],0,I0,.nil,T.keep 0 _ _ aK (λb hb o e=>old b o e),λb hb=>(cO b hb).1,w0⟩
  rintro n s3 ⟨i,ys,H3,its,k,I3,rv,ba,gr,w3⟩
  have eQ:∀{o:Obj},∀p∈[(D,o)],p.1=D:=λ{o} p hp=>by
   have ep:p=(D,o):=by simpa using hp
   rw [ep]
  obtain ⟨gD,nD,_,_,_⟩:=I3.pin (D,_) (yP _ zY)
  rcases turn i n ys H3 w3 with ⟨stop,hz,q⟩|⟨go,hz,step⟩
  ·refine aO (T.done Y rfl rfl rfl hc i _ s3 _ H3 E' I3 (iq eQ gr) ba stop) λr s4 ⟨hr,I4⟩=>?_
   subst hr
   obtain ⟨qR,iu,_,_,_⟩:=I4.pin (D,_) (yP _ zY)
   obtain ⟨m4,qS,_⟩:=id I4.loc
   have fin:∀h',Heap.SameBut C s4.heap h'->Inv X pins σ (upd H3 D (.lst ys)) { s4 with heap:=h' }:=λh' cv=>by
    have fh:∀{b:Addr} {u:HO},H3 b=some u->b≠C:=λe z=>by
     have:H3 C=none:=I4.free
     rw [z,this] at e;cases e
    refine I2.call' (s':={ s4 with heap:=h' }) (ch:=fp) (H':=upd H3 D (.lst ys)) I4.os ?_ ?_ I4.bare λb hb=>⟨(cO b hb).2.2.2.1,(cO b hb).2.1,(cO b hb).2.2.2.2.1,(cO b hb).2.2.2.2.2⟩
    ·have B:=I4.base
     have iz:∀{b:Nat} {o:Obj},ae.heap.get? b=some o->b≠C:=λe z=>ib (dm e) hC z
     have iA:∀{b:Addr} {u:HO},H3 b=some u->b≠D:=λe z=>by rw [z,iu] at e;cases e
     refine ⟨λb o e nn hb hx=>(cv.2 b (iz e)).trans (B.keep b o e nn hb hx),λb o e nn hb hx=>?_,λb o e nn hx=>?_,λb o e hx=>?_,λb xs e=>?_,λb o u e=>?_,λb ps e=>?_⟩
     ·obtain ⟨sl,z⟩:=B.slot b o e nn hb hx
      exact ⟨sl,(cv.2 b (iz e)).trans z⟩
     ·have qT:b≠D:=yB (dm e)
      rw [zR qT]
      exact B.free b o e nn hx
     ·obtain ⟨o',z⟩:=B.there b o e hx
      exact ⟨o',(cv.2 b (iz e)).trans z⟩
     ·have z:=B.tups b xs e
      rw [zR (iA z)];exact z
     ·have z:=B.frzs b o u e
      rw [zR (iA z)];exact z
     ·obtain ⟨more,z⟩:=B.tbls b ps e
      exact ⟨more,by rw [zR (iA z)];exact z⟩
    ·intro a o e
     by_cases ha:a=D
     ·subst ha
      rw [yD] at e
      cases e
      exact ⟨hz,its,k,rv,(cv.2 _ fw).trans qR⟩
     ·rw [zR ha] at e
      have dJ:∀b u,H3 b=some u->(upd H3 D (.lst ys)) b=some u:=λb u z=>by
       have hb:b≠D:=λw=>by rw [w,iu] at z;cases z
       rw [zR hb];exact z
      refine (I4.hok a o e).stay (λb u hb z=>(cv.2 b ?_).trans z) (λb z=>dJ b _ z) λb xs z=>dJ b _ z
      rcases hb with hb|hb
      ·rw [hb];exact fh e
      ·exact fh hb
   have J7:C≠D:=λz=>fw z.symm
   have IX:=fin s4.heap ⟨rfl,λ_ _=>rfl⟩
   obtain ⟨oC,eC,pC,gC,rC⟩:=id qS
   have AR:upd H3 D (.lst ys) C=none:=by rw [zR J7];exact I4.free
   have r6:∀b o,ae.heap.get? b=some o->b≠C:=λb o e z=>ib (dm e) hC z
   have lh:C≠X.env.locals:=λz=>by
    obtain ⟨m2,eo,_⟩:=id I2.loc
    obtain ⟨o2,_,_,g2,_⟩:=eo
    exact r6 _ _ g2 z.symm
   have J8:C∉X.fs:=I2.nofs (by rw [hD];omega)
   have IP:Inv X (pins++[(C,oC)]) σ (upd H3 D (.lst ys)) s4:=IX.pins_of λp hp=>by
    rcases j2.mp hp with hp|hp
    ·exact IX.pin p (yP _ hp)
    ·have ep:p=(C,oC):=by simpa using hp
     subst ep
     exact ⟨gC,AR,lh,J8,λv z=>by rw [rC.1] at z;cases z⟩
   show wpAny _ _ (assign (.Name y pos') X.env (.ref D)) _ _ s4
   have cF:wpAny (model X.prog X.w) X.A (assign (.Name y pos') X.env (.ref D)) (λ_ s5=>Inv X (pins++[(C,oC)]) (σ.set iy (some (.ref D))) (upd H3 D (.lst ys)) s5) X.xe s4:=wpAny_assign_Name (kO IP rX rY hy (v:=.ref D) rfl (λs5 I5=>I5) rZ)
   refine aO cF λ_ s5 I5=>?_
   have g5:=(I5.pin (C,oC) (yP _ (yP _ zY))).1
   refine ⟨m4,⟨oC,eC,pC,g5,rC⟩,λPo cv=>zW (zW ⟨_,_,?_,q D iu⟩)⟩
   exact (I5.pins_of (pins':=pins) λp hp=>I5.pin p (yP _ (kI _ hp))).turned (it:=C) (t':=s5.toks) (λb o hb e=>(cv.2 b hb).trans e) AR lh
    (.inr (by have:=I2.sz;rw [hD] at this;omega)) (λa c ha z=>by
     obtain ⟨v',o',ho',_⟩:=I2.cell a c ha
     exact r6 _ _ ho' z) (λp hp=>r6 _ _ (I2.pin p hp).1)
  ·refine aO (T.item Y rfl rfl rfl hc i _ s3 _ H3 E' I3 (iq eQ gr) ba go) λr s4 ⟨u,hr,h4⟩=>?_
   subst hr
   refine aO h4 λ_ s5 ⟨z,H5,I5,r5,y5,cM,lX⟩=>?_
   have lY:=I5.pinned (iq eQ lX) (T.obj _ _ cM)
   have ml:PG Y (.Name x px) (kP 0):=qq (X:=Y) hN rfl (.inl (nJ S.hx)) (.inr (nJ S.hx))
   have qU:PE Y elt te:=PE.nox (X:=Y) (he cl C ae H2 fp)
   refine aO (ml _ s5 (none::σ) H5 z u (fun σ' H'=>σ'=some z::σ/\H'=H5) lY r5 ⟨rfl,rfl⟩) λ_ s6 ⟨aA,H6,I6,e1,e2⟩=>?_
   subst e1 e2
   refine aO (qU _ s6 _ _ _ I6 (step z _ y5)) λuy s7 ⟨y,H7,I7,ry,m',hm,w7⟩=>?_
   obtain ⟨mm,iB,_,_,_⟩:=I7.pin (D,_) (yP _ (kI _ zY))
   refine wpAny_list_append_plain ⟨k,mm⟩ (λh' bj cv=>?_) (by rw [yO,<-rv.length];exact hz)
   obtain ⟨k',mn⟩:=bj
   have I8:Inv Y [] (some z::σ) H7 { s7 with heap:=h' }:=(I7.pins_of (pins':=[]) (λp hp=>nomatch hp)).turned (it:=D) (t':=s7.toks) (λb o hb e=>(cv.2 b hb).trans e) iB fw
    (.inr (by show ae.heap.objs.size<=D;omega)) (λa c hy dM=>by
     obtain ⟨v',o',ho',_⟩:=I2.cell a c (cq a c hy)
     exact yB (dm ho') dM) (λp hp=>by simp [Y,gv] at hp)
   have I9:Inv Y [] (none::σ) H7 { s7 with heap:=h' }:=I8.weak (by simp) λj v e=>by
    cases j with
    |zero=>simp at e
    |succ j=>simpa using e
   have c9:∀b∈fp,∃o,s5.heap.get? b=some o/\s7.heap.get? b=some o/\H7 b=none:=λb hb=>by
    obtain ⟨o,e,_⟩:=T.obj _ _ cM b hb
    have q:=I7.pin (b,o) (yP _ (yP _ (lW hb e)))
    exact ⟨o,e,q.1,q.2.1⟩
   have qV:∀b∈fp,b≠D:=λb hb=>by
    obtain ⟨o,ho,_⟩:=T.obj 0 _ aK b hb
    exact yB (dm ho)
   have eT:its.toArray.push uy=(its++[uy]).toArray:=by simp
   rw [eT] at mn
   refine ⟨m',hm,i+1,ys++[y],H7,its++[uy],k',I9.pins_of (dY mn iB λv e=>by cases e),rv.append (.cons ry .nil),T.keep (i+1) _ _ cM λb hb o e=>?_,λb hb=>?_,w7⟩
   ·obtain ⟨o',e1,e2,_⟩:=c9 b hb
    rw [e] at e1
    cases e1
    exact (cv.2 b (qV b hb)).trans e2
   ·obtain ⟨_,_,_,q⟩:=c9 b hb
    exact q
 exact codeAny_compStart_list loop (T.self X.A 0 _ _ _ (T.keep 0 _ _ aK (λb hb o e=>old b o e)) loop)
end L2
namespace Mi
open PySem L2 PySem.W PySem.Spec
section
variable {X:Cx} {Er:XK} {pos:Pos}
def J9 (X:Cx) (Er:XK) (src:za->Mo Sq):TI:=fun σ H R=>∃env st ρ,a7 X.K X.mg ρ H env σ/\aZ X.K X.mg ρ H st/\Out X.K X.mg ρ H (src env st) (λaf H' q aR=>∀J,Walk X.K X.mg J af H' q->R J H') Er
def J_ {src:za->Mo Sq}{fe:Ai}(σ:L2.St) (H:Hp) (Q:VK) (hh:tM X.K X.mg Er (yU src fe) σ H Q):qM (J9 X Er src) (tM X.K X.mg XN fe) σ H Q:=by
 obtain ⟨env,st,ρ,re,rs,h⟩:=hh
 refine ⟨env,st,ρ,re,rs,h.then λal H0 q fA e0 s0 h0 J wk=>?_⟩
 cases q with
 |im xs =>
  obtain ⟨hl,h0⟩:=Out.ifp h0
  obtain ⟨w1,w2,w3⟩:=wk
  refine ⟨λi m ys H=>m=xs.length-i/\i<=xs.length/\ys.length=i/\∃ps st ρ,Rs X.K X.mg ρ H ps ys/\aZ X.K X.mg ρ H st/\Ext al H0 ρ H/\Out X.K X.mg ρ H (cT fe env (xs.drop i) ps st) (gV X.K X.mg Q) Er,⟨xs.length,by simp,jP _,rfl,[],fA,al,rfl,s0,Ext.refl,h0⟩,?_⟩
  rintro i m ys H ⟨rfl,hi,hy,ps,st,ρ,dQ,rs,ex,h⟩
  by_cases bg:i<xs.length
  ·refine .inr ⟨w1 i ρ H ex bg,jz (by omega),λv H' y=>?_⟩
   obtain ⟨x,hx,dO,s2,rx⟩:=w3 i ρ H st v H' ex rs bg y
   have hd:xs.drop i=x::xs.drop (i+1):=by
    rw [fJ bg]
    have:=(yN.mp hx).2
    rw [this]
   rw [hd] at h
   simp only [cT] at h
   refine ⟨some x::env,st,ρ,(re.ext (e0.trans (ex.trans dO))).cons rx,s2,iK (Out.ext h dO) λak H3 y ba e3 s3 h3 v ry=>⟨xs.length-(i+1),by omega,rfl,bg,by simp [hy],ps++[y],ba,ak,Rs.snoc ry (Rs.ext (dO.trans e3) ps dQ),s3,(ex.trans dO).trans e3,h3⟩⟩
  ·have e:i=xs.length:=by omega
   subst e
   rw [List.drop_length] at h
   exact .inl ⟨w2 _ ρ H ex (z0 _),jz (by omega),λl hl=>Out.newList h rs dQ hl⟩
 |rf n =>
  obtain ⟨a,ha,rfl⟩:=wk
  refine ⟨λi m ys H=>m+i=lim+1/\ys.length=i/\∃ps st ρ,Rs X.K X.mg ρ H ps ys/\aZ X.K X.mg ρ H st/\Ext al H0 ρ H/\ρ[n]?=some a/\Out X.K X.mg ρ H (dy fe env n m i ps st) (gV X.K X.mg Q) Er,⟨lim+1,rfl,rfl,[],fA,al,rfl,s0,Ext.refl,ha,h0⟩,?_⟩
  rintro i m ys H ⟨hm,hy,ps,st,ρ,dQ,rs,ex,ha,h⟩
  cases m with
  |zero=>exact h.elim
  |succ m =>
   obtain ⟨xs,hn,h⟩:=jB h
   obtain ⟨vs,hH,hR⟩:=rs.addr hn ha
   cases hx:xs[i]? with
   |none =>
    simp only [hx] at h
    have:vs.length<=i:=by rw [<-hR.len];exact hW.mp hx
    exact .inl ⟨⟨vs,a_.of hH,this⟩,jz (by omega),λl hl=>Out.newList h rs dQ hl⟩
   |some x =>
    simp only [hx] at h
    obtain ⟨v,hv,rv⟩:=hR.get hx
    refine .inr ⟨⟨vs,v,a_.of hH,hv⟩,jz (by omega),λv' H' y=>?_⟩
    obtain ⟨e1,y⟩:=y
    subst e1
    have e2:=y vs (a_.of hH)
    rw [hv] at e2
    cases e2
    exact ⟨some x::env,st,ρ,(re.ext (e0.trans ex)).cons rv,rs,iK h λak H3 y ba e3 s3 h3 v ry=>⟨m,wV m,by omega,by simp [hy],ps++[y],ba,ak,Rs.snoc ry (Rs.ext e3 ps dQ),s3,ex.trans e3,e3.get ha,h3⟩⟩
def AU (i:Nat) {elt iter:Expr} {x y:Str} {px pos' gR:Pos} {scope:Scope} {src:za->Mo Sq} {fe:Ai} {M:Ad} (hc:X.calm=true) (S:b_ X.env.scope scope x) (eN:Hid scope M X.N) (cX:((".0" : Str)::x::M).Nodup)
  (hi:MI X Er (.Name x px) iter src) (he:∀cl C ae ah fp,ME (gv X M scope cl x C ae ah fp (λ_ _=>False)) XN elt fe) (rX:X.N.Nodup) (rY:X.N[i]?=some y) (hy:Loc X.env.scope y) (rZ:X.fn y=true\/X.env.scope.names.lookup y=some .local)
  (e7:swapsWith (.ListComp elt [⟨.Name x px,iter,[],0⟩] scope pos) (some (.Name y pos')) gR.line X.env=pure true) (hs:∀v,foldedSetIterable iter X.env v=pure v:=by intro _;rfl) :
  MS X Er (.Assign [.Name y pos'] (.ListComp elt [⟨.Name x px,iter,[],0⟩] scope pos) gR) (zQ i (yU src fe)) :=
 PS.weak (J6 (te:=tM X.K X.mg XN fe) hc S eN cX hi (λcl C ae ah fp=>he cl C ae ah fp) rX rY hy rZ e7 hs) λD σ H ⟨env,st,ρ,re,rs,h⟩=>by
  refine J_ (X:=X) (Er:=Er) (src:=src) (fe:=fe) σ H (λv H2=>D.nx (σ.set i (some v)) H2) ⟨env,st,ρ,re,rs,h.then λaa H1 x au e1 s1 h1 v rv=>?_⟩
  exact h1.now s1 (σ.set i (some v)) ((re.ext e1).set i rv)
end
end Mi
namespace L2
open PySem PySem.Spec PyProof.Rows PySem.W
section
variable {X:Cx} {pins:Ac} {σ:St} {H:Hp} {s:Shared} {a:Addr} {kvs:List (Key×V)} {o:Obj}
def Inv.freeze (I:Inv X pins σ H s) (ha:H a=some (.dK kvs)) (ho:s.heap.get? a=some o):Inv X pins σ (upd H a (.frz o (.dK kvs))) s:=by
 have mu:kL (H a):=by rw [ha];trivial
 have d:=I.hok a _ ha
 exact I.un (h':=s.heap) (t':=s.toks) (Un.write (e:=a) mu (.inl rfl) (λb u _ q=>q) ⟨o,ho⟩) (bI.write (e:=a) I.hok mu (.inl rfl) (λb u _ q=>q) ⟨o,ho⟩ ⟨ho,d⟩)
def Inv.young (I:Inv X pins σ H s) (ha:H a=some (.dK kvs)):∀o u,X.H₀ a≠some (.frz o u):=λo u e=>by
 have:=I.base.frzs a o u e
 rw [ha] at this
 cases this
def Inv.thaw (I:Inv X pins σ H s) (ha:H a=some (.frz o (.dK kvs))) (hy:∀o u,X.H₀ a≠some (.frz o u)):Inv X pins σ (upd H a (.dK kvs)) s:=by
 have ne:∀b,H b=none->b≠a:=λb n z=>by rw [z,ha] at n;cases n
 have no:∀b u,H b=some u->(∀o k,u ≠ .frz o k)->b≠a:=λb u e n z=>by rw [z,ha] at e;cases e;exact n _ _ rfl
 refine ⟨I.ok,I.os,I.bare,⟨I.base.keep,I.base.slot,λb o e n hx=>?_,I.base.there,λb xs e=>?_,λb o u e=>?_,λb ps e=>?_⟩,I.loc,I.cell,?_,λx c e=>?_,λp hp=>?_,λb u e=>?_,I.len⟩
 ·have:=I.base.free b o e n hx
  rw [zR (ne b this)];exact this
 ·have:=I.base.tups b xs e
  rw [zR (no b _ this λ_ _=>nofun)];exact this
 ·have:=I.base.frzs b o u e
  rw [zR (λz=>hy o u (by rw [<-z];exact e))];exact this
 ·obtain ⟨m,this⟩:=I.base.tbls b ps e
  exact ⟨m,by rw [zR (no b _ this λ_ _=>nofun)];exact this⟩
 ·rw [zR (ne _ I.free)];exact I.free
 ·rw [zR (ne _ (I.freeC x c e))];exact I.freeC x c e
 ·obtain ⟨h1,h2,h3⟩:=I.pin p hp
  exact ⟨h1,by rw [zR (ne _ h2)];exact h2,h3⟩
 ·by_cases hb:b=a
  ·subst hb
   rw [yD] at e
   cases e
   exact (I.hok b _ ha).2
  ·rw [zR hb] at e
   exact (I.hok b u e).stay (λc v _ q=>q) (λc q=>by rw [zR (no c _ q λ_ _=>nofun)];exact q) λc xs q=>by rw [zR (no c _ q λ_ _=>nofun)];exact q
end
def AV (a:Addr) (o:Obj) (kvs:List (Key×V)):It :=
 ⟨λi H=>H a=some (.frz o (.dK kvs))/\i<kvs.length,λi H x H'=>H'=H/\∃kv,kvs[i]?=some kv/\x=kV kv.1,λi H=>H a=some (.frz o (.dK kvs))/\kvs.length<=i⟩
def Ka {k:Key}{u:Value}(h:cL k u=true):RelV (kV k) u:=by
 rcases wg h with ⟨i,t,rfl,rfl⟩|⟨y,t,rfl,rfl⟩
 ·exact ⟨t,rfl⟩
 ·exact ⟨t,rfl⟩
def o7 {X:Cx}{pins:Ac}{σ:St}{H:Hp}{s:Shared}{a:Addr}{o:Obj}{kvs:List (Key×V)}{es:Array DictEntry}{ep:Nat}(I:Inv X pins σ H s) (ha:H a=some (.frz o (.dK kvs))) (hd:o.data=.dict es ep) :
  ∃vs,KV kvs vs/\s.heap.DictAt (aX X.prog X.w) a vs ep:=by
 obtain ⟨ho,_,_,vs,r,o',nM,kN,e1,e2,e3,e4⟩:=I.hok a _ ha
 rw [ho] at e1
 cases e1
 rw [hd] at e3
 cases e3
 exact ⟨vs,r,o,es,ho,e2,hd,e4⟩
def Kb {P:Program}{w:World}{K:PySem.W.Frag}{tg:Expr}{a it:Addr}{o:Obj}{kvs:List (Key×V)}{es:Array DictEntry}{ep:Nat}(hd:o.data=.dict es ep):Turn P w K tg (AV a o kvs) [it] it (λi h=>h.IsKeyIter it a i kvs.length ep) where
 mem:=by simp
 obj:=λi h st b hb=>by
  have e:b=it:=by simpa using hb
  subst e
  obtain ⟨o,e,c,d⟩:=st
  exact ⟨o,e,λv z=>by rw [d] at z;cases z⟩
 keep:=λi h h' st k=>st.at λo e=>k it (by simp) o e
 item:=by
  intro X hP hw hK hc i pins s σ H E I hf st hg
  subst hP hw hK
  obtain ⟨ha,hi⟩:=hg
  obtain ⟨vs,r,dn⟩:=o7 I ha hd
  have hl:=r.length
  have hv:vs[i]?=some (vs[i]'(by omega)):=yc (by omega)
  have eD:kvs[i]?=some kvs[i]:=yc hi
  have hk:kvs[i].1=(vs[i]'(by omega)).1:=by
   have:=congrArg (λl:List Key=>l[i]?) r.keys
   simp only [y7,hv,eD,Option.map_some] at this
   exact Option.some.inj this
  obtain ⟨f0,f1,f2,f3,f4,f5⟩:=hf it (by simp)
  rw [hl] at st
  refine wpAny_pyNext_dict_item st dn (k:=(vs[i]'(by omega)).1) (v:=(vs[i]'(by omega)).2) hv λkey h' l8 aR sb=>?_
  have I1:Inv X pins σ H { s with heap:=h' }:=I.turned (t':=s.toks) (λb o hb e=>(sb.2 b hb).trans e) f0 f1 f3 f4 f5
  obtain ⟨o',e,c,d⟩:=id aR
  refine ⟨key,rfl,kQ (s:={ s with heap:=h' }) e c d (by decide) ⟨kV kvs[i].1,H,I1,?_,⟨rfl,_,eD,rfl⟩,by rw [<-hl] at aR;exact aR,λb hb=>(hf b hb).1⟩⟩
  rw [hk]
  exact Ka l8
 done:=by
  intro X hP hw hK hc i pins s σ H E I hf st hg
  subst hP hw hK
  obtain ⟨ha,hi⟩:=hg
  obtain ⟨vs,r,dn⟩:=o7 I ha hd
  have hl:=r.length
  obtain ⟨f0,f1,f2,f3,f4,f5⟩:=hf it (by simp)
  rw [hl] at st
  exact wpAny_pyNext_dict_end (I.ok.hd hc) st dn (hW.mpr (by omega)) λh' eb=>⟨rfl,I.turned (t':=s.toks) (λb o hb e=>eb b o hb e) f0 f1 f3 f4 f5⟩
 self:=λ_ _ _ _ _ st h=>wpAny_pyIter_keyiter st h
def Kc (X:Cx) (tl:TE):TI:=fun σ H R=>tl σ H λx H1=>∃a kvs,x=.ref a/\H1 a=some (.dK kvs)/\∀o,kvs.length<=sizeLine->(∀o u,X.H₀ a≠some (.frz o u))->R (AV a o kvs) (upd H1 a (.frz o (.dK kvs)))
def Kd {X:Cx}{l tg:Expr}{tl:TE}(hl:PE X l tl):PI X tg l (Kc X tl):=by
 intro pins s σ H R I h
 refine aO (hl pins s σ H _ I h) λv s1 ⟨x,H1,I1,r1,a,kvs,e,ha,q⟩=>?_
 subst e
 cases r1
 obtain ⟨hz,lo,vs,r,o,es,ep,ho,hx,hd,hr⟩:=I1.hok a _ ha
 have I2:=I1.freeze ha ho
 have fr:∀b,s1.heap.objs.size<=b->(upd H1 a (.frz o (.dK kvs))) b=none:=λb hb=>I2.hok.fresh hb
 refine wpAny_pyIter_dict lo (show s1.heap.DictAt (aX X.prog X.w) a vs ep from ⟨o,es,ho,hx,hd,hr⟩) ?_
 refine ⟨s1.heap.objs.size,[s1.heap.objs.size],_,_,_,rfl,I2.kept (t':=s1.toks) (λb o e=>z8 _ e),Kb hd,?_,λb hb=>?_,q o hz (I1.young ha)⟩
 ·rw [r.length]
  exact ⟨_,yV _ rfl,rfl,rfl⟩
 ·have e:b=s1.heap.objs.size:=by simpa using hb
  subst e
  exact I2.fpOk (z0 _) (fr _ (z0 _))
def qh (X:Cx) (H:Hp) (G:Hp->Prop):Prop:=∃a o kvs,H a=some (.frz o (.dK kvs))/\(∀o u,X.H₀ a≠some (.frz o u))/\G (upd H a (.dK kvs))
def Ke {X:Cx}{st:Stmt}{t:TS}(h:PS X st t):PS X st (λD σ H=>t ⟨fun σ' H'=>qh X H' (D.nx σ'),λ_ _=>False,λ_ _=>False,λ_ _=>False⟩ σ H):=by
 intro pins s σ H D I q
 refine aO (h pins s σ H _ I q) λf s1 q1=>?_
 cases f with
 |next =>
  obtain ⟨σ',H',I',a,o,kvs,ha,hy,q'⟩:=q1
  exact ⟨σ',_,I'.thaw ha hy,q'⟩
 |brk=>obtain ⟨_,_,_,q'⟩:=q1;exact q'.elim
 |cont=>obtain ⟨_,_,_,q'⟩:=q1;exact q'.elim
 |ret u=>obtain ⟨_,_,_,_,_,q'⟩:=q1;exact q'.elim
def Kf {X:Cx}{e:Expr}{t:TE}(h:PE X e t):PE X e (fun σ H Q=>t σ H λv H'=>qh X H' (Q v)):=by
 intro pins s σ H Q I q
 refine aO (h pins s σ H _ I q) λu s1 ⟨v,H',I',r,a,o,kvs,ha,hy,q'⟩=>?_
 exact ⟨v,_,I'.thaw ha hy,r,q'⟩
end L2
namespace Mi
open PySem L2 PySem.W PySem.Spec
section
variable {K:Frag} {mg:Ab} {ρ:Ae} {H:Hp} {a:Addr} {o:Obj} {kvs:List (Key×V)} {u:HO}
def lp (ha:H a=some (.frz o (.dK kvs))) {b:Addr}{w:HO}(h:H b=some w) (n:∀o k,w ≠ .frz o (.dK k)):upd H a u b=some w:=by
 rw [zR]
 ·exact h
 ·intro z;subst z;rw [ha] at h;cases h;exact n _ _ rfl
def AW (ha:H a=some (.frz o (.dK kvs))) {p:Addr}{xs:List V}(h:bK K H p xs):bK K (upd H a u) p xs:=by
 rcases h with (h|⟨o,h⟩)|h
 ·exact .inl (.inl (lp ha h (λ_ _=>nofun)))
 ·exact .inl (.inr ⟨o,lp ha h (λ_ _=>nofun)⟩)
 ·exact .inr h
def Kg (ha:H a=some (.frz o (.dK kvs))) {p:Addr}{xs:List V}(h:fQ K H p xs):fQ K (upd H a u) p xs:=by
 rcases h with ⟨o,h⟩|h
 ·exact .inl ⟨o,lp ha h (λ_ _=>nofun)⟩
 ·exact .inr h
mutual
theorem R.th (ha:H a=some (.frz o (.dK kvs))):∀(x:PV) {v:V},R K mg ρ H x v->R K mg ρ (upd H a u) x v
 |.non,_,h=>h
 |.bl _,_,h=>h
 |.int _,_,h=>h
 |.str _,_,h=>h
 |.ty _,_,h=>h
 |.tup xs,_,h=>by
  obtain ⟨a,vs,h1,h2,h3⟩:=h
  exact ⟨a,vs,h1,AW ha h2,Rs.th ha xs h3⟩
 |.frl xs,_,h=>by
  obtain ⟨a,vs,h1,h2,h3⟩:=h
  exact ⟨a,vs,h1,Kg ha h2,Rs.th ha xs h3⟩
 |.ref n,_,h=>h
 |.fn _,_,h=>h
 |.kd ks xs,_,h=>by
  obtain ⟨a,us,vs,h1,h2,h4,h3⟩:=h
  exact ⟨a,us,vs,h1,h2,h4,Rs.th ha xs h3⟩
 |.exo c ks xs,_,h=>by
  obtain ⟨a,C,h1,h2,⟨h3,h4⟩|⟨d,vs,h3,h4,h5,h6⟩⟩:=h
  ·exact ⟨a,C,h1,h2,.inl ⟨h3,lp ha h4 (λ_ _=>nofun)⟩⟩
  ·exact ⟨a,C,h1,h2,.inr ⟨d,vs,lp ha h3 (λ_ _=>nofun),lp ha h4 (λ_ _=>nofun),Rs.th ha xs h5,h6⟩⟩
theorem Rs.th (ha:H a=some (.frz o (.dK kvs))):∀(xs:An) {vs:List V},Rs K mg ρ H xs vs->Rs K mg ρ (upd H a u) xs vs
 |[],_,h=>h
 |x::xs,_,h=>by
  obtain ⟨v,r,h1,h2,h3⟩:=h
  exact ⟨v,r,h1,R.th ha x h2,Rs.th ha xs h3⟩
end
theorem a7.th (ha:H a=some (.frz o (.dK kvs))) {env:za}{σ:L2.St}(h:a7 K mg ρ H env σ):a7 K mg ρ (upd H a u) env σ :=
 ⟨h.len,λi x hx=>let ⟨v,p,q⟩:=h.at_ i x hx;⟨v,p,R.th ha x q⟩⟩
def Kh (ha:H a=some (.frz o (.dK kvs))) {so:SO}{b:Addr}(ne:b≠a) (h:eB K mg ρ H so b):eB K mg ρ (upd H a u) so b:=by
 cases so with
 |lst xs=>obtain ⟨vs,h1,h2⟩:=h;exact ⟨vs,by rw [zR ne];exact h1,Rs.th ha xs h2⟩
 |dic ks xs=>obtain ⟨vs,h1,h2,h3⟩:=h;exact ⟨vs,by rw [zR ne];exact h1,Rs.th ha xs h2,h3⟩
 |ins c ks xs=>obtain ⟨C,dx,vs,h0,h1,h2,h3⟩:=h;exact ⟨C,dx,vs,h0,by rw [zR ne];exact h1,Rs.th ha xs h2,h3⟩
 |fdi ks xs=>obtain ⟨o,vs,h1,h2,h3⟩:=h;exact ⟨o,vs,by rw [zR ne];exact h1,Rs.th ha xs h2,h3⟩
 |dit ks xs=>obtain ⟨its,vs,h1,h2,h3,h4,h5⟩:=h;exact ⟨its,vs,by rw [zR ne];exact h1,h2,λx hx=>AW ha (h3 x hx),h4,Rs.th ha xs h5⟩
def aZ.thaw {st:aj}{n:Nat}{ks:Ad}{xs:An}(s:aZ K mg ρ H st) (hn:ρ[n]?=some a) (ha:H a=some (.frz o (.dK kvs))) (hs:st[n]?=some (.fdi ks xs)):aZ K mg ρ (upd H a (.dK kvs)) (st.set n (.dic ks xs)):=by
 refine ⟨by simp [s.len],s.nd,λi fy e=>?_⟩
 rw [List.getElem?_set] at e
 by_cases cA:n=i
 ·subst cA
  rw [zj rfl] at e
  split at e
  ·cases e
   obtain ⟨o',vs,h1,h2,h3⟩:=s.addr hs hn
   rw [ha] at h1
   cases h1
   exact ⟨a,hn,vs,yD,Rs.th ha xs h2,h3⟩
  ·cases e
 ·rw [zx cA] at e
  obtain ⟨b,hb,q⟩:=s.at_ i fy e
  have ne:b≠a:=by
   intro z
   subst z
   obtain ⟨h1,h2⟩:=yN.mp hn
   obtain ⟨h3,h4⟩:=yN.mp hb
   have pw:=List.pairwise_iff_getElem.mp s.nd
   rcases Nat.lt_trichotomy n i with c|c|c
   ·exact pw n i h1 h3 c (h2.trans h4.symm)
   ·exact cA c
   ·exact pw i n h3 h1 c (h4.trans h2.symm)
  exact ⟨b,hb,Kh ha ne q⟩
def Ext.thawed {af:Ae}{H':Hp}{w:HO}(ha:H a=some (.dK kvs)) (e:Ext ρ (upd H a (.frz o (.dK kvs))) af H'):Ext ρ H af (upd H' a w) :=
 ⟨e.pre,λb x h m=>by
  have ne:b≠a:=by intro z;subst z;rw [ha] at h;cases h;cases m
  rw [zR ne]
  exact e.imm b x (by rw [zR ne];exact h) m⟩
end
section
variable {X:Cx} {Er:XK} {pos:Pos} {o:Expr} {c5:List Stmt} {gb:Aj} {fo:Ai}
def lq {U:Type}(v:PV) (st:aj) (f:Nat->List Str->List PV->Res U):Res U:=match v with
 |.ref n=>y3 st n λks xs=>f n ks xs
 |_=>.stuck
def dA {U:Type}(n:Nat) (st:aj) (f:aj->Res U):Res U:=match st[n]? with
 |some (.fdi ks xs)=>f (st.set n (.dic ks xs))
 |_=>.stuck
def AX {U:Type}{K:Frag}{mg:Ab}{ρ:Ae}{H:Hp}{st:aj}{v:PV}{k:Nat->List Str->List PV->Res U}{good:List Addr->Hp->U->aj->Prop}(h:Out K mg ρ H (lq v st k) good Er):∃n ks xs,v=.ref n/\st[n]?=some (.dic ks xs)/\Out K mg ρ H (k n ks xs) good Er:=by
 unfold lq at h
 split at h
 ·rename_i n
  obtain ⟨ks,xs,e,h⟩:=oK h
  exact ⟨n,ks,xs,rfl,e,h⟩
 ·exact h.elim
def AY {U:Type}{K:Frag}{mg:Ab}{ρ:Ae}{H:Hp}{st:aj}{n:Nat}{k:aj->Res U}{good:List Addr->Hp->U->aj->Prop}(h:Out K mg ρ H (dA n st k) good Er):∃ks xs,st[n]?=some (.fdi ks xs)/\Out K mg ρ H (k (st.set n (.dic ks xs))) good Er:=by
 unfold dA at h
 split at h
 ·rename_i ks xs e;exact ⟨ks,xs,e,h⟩
 ·exact h.elim
def AZ {U β:Type}{K:Frag}{mg:Ab}{ρ:Ae}{H:Hp}{r:Res β}{f:β->Mo U}{good:List Addr->Hp->U->aj->Prop}(h:Out K mg ρ H ((bQ r).bind f) good Er):∃x st,r=.ok x st/\Out K mg ρ H (f x st) good Er:=by
 cases r with
 |ok x st=>exact ⟨x,st,rfl,h⟩
 |err=>exact h.elim
 |stuck=>exact h.elim
def A0 {U β:Type}{r:Res β}{f:β->Mo U}{x:U}{st:aj}(h:(bQ r).bind f=.ok x st):∃y au,r=.ok y au/\f y au=.ok x st:=by
 cases r with
 |ok y au=>exact ⟨y,au,rfl,h⟩
 |err=>cases h
 |stuck=>cases h
def dR (g:PV->za->Option za) (body:Aj):List PV->za->Mo za
 |[],env,st=>.ok env st
 | x::xs,env,st=>match g x env with
  |none=>.stuck
  | some bN=>(bQ (body bN st)).bind λfl aK=>match fl with
   |.nx e=>dR g body xs e aK
   |.ct e=>dR g body xs e aK
   |_=>.stuck
def o8 (fo:Ai) (g:PV->za->Option za) (body:Aj):Aj:=λenv st=>(fo env st).bind λv au=>lq v au λn ks xs =>
 (bQ (dR g body (ks.map PV.str) env (au.set n (.fdi ks xs)))).bind λe aK=>dA n aK λba=>.ok (.nx e) ba
def Ki {ks:Ad}{vs:List V}{i:Nat}{kv:Key×V}(h:(kz ks vs)[i]?=some kv):∃k,ks[i]?=some k/\kV kv.1=.str k:=by
 unfold kz at h
 rw [List.getElem?_zip_eq_some] at h
 obtain ⟨h1,_⟩:=h
 rw [y7] at h1
 cases hk:ks[i]? with
 |none=>rw [hk] at h1;cases h1
 |some k =>
  rw [hk] at h1
  have:kv.1=Sum.inr k:=(Option.some.inj h1).symm
  exact ⟨k,rfl,by rw [this];rfl⟩
def zph {tg:Expr}{gt:PV->za->Option za}(hp:PassesOwn (model X.prog X.w) X.A X.env X.xe) (hc:X.calm=true) (ho:ME X Er o fo) (hg:MG X Er tg gt) (hb:df X Er c5 gb)
  (hs:∀v,foldedSetIterable o X.env v=pure v:=by intro _;rfl):MS X Er (.For tg o c5 [] pos) (o8 fo gt gb) :=
 PS.weak (Ke (uU hp hc (Kd ho) hg hb hs)) λD σ H ⟨env,st,ρ,re,rs,h⟩=>⟨env,st,ρ,re,rs,h.then λal H0 x fA e0 s0 h0 v rv=>by
  obtain ⟨n,ks,xs,rfl,hn,h0⟩:=AX h0
  obtain ⟨a,vs,rfl,ha,k1,k2,k3⟩:=R.refD s0 rv hn
  refine ⟨a,kz ks vs,rfl,k1,λob hz hy=>?_⟩
  obtain ⟨e',aR,hr,h0⟩:=AZ h0
  obtain ⟨dz,eZ,ht,h0⟩:=AY h0
  have ew:Ext al H0 al (upd H0 a (.frz ob (.dK (kz ks vs)))):=Ext.write k1 rfl
  have hl:(kz ks vs).length=ks.length:=by simp [kz,k3]
  refine ⟨λi m σ H=>m=ks.length-i/\i<=ks.length/\∃env st ρ,a7 X.K X.mg ρ H env σ/\aZ X.K X.mg ρ H st/\Ext al (upd H0 a (.frz ob (.dK (kz ks vs)))) ρ H/\dR gt gb ((ks.map PV.str).drop i) env st=.ok e' aR,
   ⟨ks.length,by simp,jP _,env,_,al,(re.ext e0).ext ew,s0.write (so:=.fdi ks xs) ha ew ⟨ob,vs,yD,Rs.ext ew _ k2,k3⟩,Ext.refl,hr⟩,?_⟩
  rintro i m σ H ⟨rfl,hi,env,st,ρ,re,rs,ex,h⟩
  have hf:H a=some (.frz ob (.dK (kz ks vs))):=ex.imm a _ yD rfl
  have r8:=ex.get ha
  by_cases bg:i<ks.length
  ·refine .inr ⟨⟨hf,by rw [hl];exact bg⟩,_,fun σ' H' p'=>⟨ks.length-(i+1),by omega,rfl,bg,p'⟩,λv H' y=>?_⟩
   obtain ⟨rfl,kv,eD,rfl⟩:=y
   obtain ⟨k,hk,ev⟩:=Ki eD
   have hd:(ks.map PV.str).drop i=.str k::(ks.map PV.str).drop (i+1):=by
    rw [fJ (by simpa using bg)]
    have:=(yN.mp hk).2
    simp [this]
   rw [hd] at h
   simp only [dR] at h
   cases hgx:gt (.str k) env with
   |none=>simp only [hgx] at h;cases h
   |some bN =>
    simp only [hgx] at h
    obtain ⟨fl,aK,r9,h⟩:=A0 h
    refine ⟨.str k,env,bN,ρ,ev,re,hgx,λam r1=>⟨bN,st,ρ,r1,rs,?_⟩⟩
    rw [r9]
    intro ak H3 e3 s3
    cases fl with
    |nx e=>exact λax r4=>⟨e,aK,ak,r4,s3,ex.trans e3,h⟩
    |ct e=>exact λax r4=>⟨e,aK,ak,r4,s3,ex.trans e3,h⟩
    |bk e=>cases h
    |rt v=>cases h
  ·have e:i=ks.length:=by omega
   subst e
   rw [kJ (by simp)] at h
   cases h
   exact .inl ⟨⟨hf,by rw [hl];exact z0 _⟩,a,ob,_,hf,hy,h0 ρ _ (Ext.thawed k1 ex) (aZ.thaw rs r8 hf ht) σ (re.th hf)⟩⟩
def dB (fe:Ai) (env:za):List PV->List PV->Mo (An)
 |[],ys,st=>.ok ys st
 |x::xs,ys,st=>(bQ (fe (some x::env) st)).bind λy au=>dB fe env xs (ys++[y]) au
def gT:Am:=λx y st=>match x with
 | .ref n=>match st[n]? with
  | some (.fdi ks xs)=>match y with
   |.str z=>cD ((ks.zip xs).lookup z) st
   |_=>.stuck
  |_=>z9 x y st
 |_=>z9 x y st
def Kj (hu:X.A.units+200<cLine):kE X gT:=by
 obtain ⟨r,h1,h2⟩:=jf (X:=X) hu
 refine ⟨_,h1.or (Ao (by omega)),fun ρ H st x y v w Q E s rx ry h=>?_⟩
 by_cases hx:∃n ks xs,x=.ref n/\st[n]?=some (.fdi ks xs)
 ·obtain ⟨n,ks,xs,rfl,e⟩:=hx
  simp only [gT,e] at h
  cases y with
  |str z =>
   obtain ⟨q,hq,h⟩:=gI h
   obtain ⟨a,rfl,ha⟩:=rx
   obtain ⟨ob,vs,k1,k2,_⟩:=s.addr e ha
   cases ry
   obtain ⟨v,hv,rv⟩:=iG k2 hq
   refine .inr ⟨a,v,rfl,.inl ⟨_,Sum.inr z,.inr ⟨ob,k1⟩,rfl,?_⟩,h.now s _ rv⟩
   rw [<-hv]
   exact rO.symm
  |_=>exact h.elim
 ·refine .inl (h2 ρ H st x y v w Q E s rx ry ?_)
  have:gT x y st=z9 x y st:=by
   unfold gT
   split
   ·rename_i n
    split
    ·rename_i ks xs e;exact absurd ⟨n,ks,xs,rfl,e⟩ hx
    ·rfl
   ·rfl
  rw [this] at h
  exact h
end
section
variable {X:Cx} {Er:XK} {K:Frag} {mg:Ab} {e:Expr} {fk:Ai}
def cV:List PV->Option (List Bool)
 |[]=>some []
 |.bl b::r=>(cV r).map (b::·)
 |_::_=>none
theorem A1 {ρ:Ae}{H:Hp}:∀{xs:An}{bs:List Bool}{vs:List V},cV xs=some bs->Rs K mg ρ H xs vs->vs=bs.map V.bl
 |[],bs,vs,e,h=>by cases e;cases h;rfl
 |.bl i::r,bs,vs,e,h=>by
  simp only [cV,Option.map_eq_some_iff] at e
  obtain ⟨ir,e1,rfl⟩:=e
  obtain ⟨v,r',rfl,h1,h2⟩:=h
  cases h1
  rw [A1 e1 h2]
  rfl
 |.non::_,_,_,e,_=>by cases e
 |.int _::_,_,_,e,_=>by cases e
 |.str _::_,_,_,e,_=>by cases e
 |.ty _::_,_,_,e,_=>by cases e
 |.tup _::_,_,_,e,_=>by cases e
 |.frl _::_,_,_,e,_=>by cases e
 |.ref _::_,_,_,e,_=>by cases e
 |.fn _::_,_,_,e,_=>by cases e
 |.kd _ _::_,_,_,e,_=>by cases e
 |.exo _ _ _::_,_,_,e,_=>by cases e
theorem A3:∀bs:List Bool,cV (bs.map PV.bl)=some bs
 |[]=>rfl
 |b::bs=>by simp [cV,A3 bs]
def iO:Al:=λvs st=>(iN vs st).bind λn st=>ym st n λxs=>match cV xs with
 |some bs=>.ok (.bl (bs.all id)) st
 |none=>.stuck
def Kk (hc:X.calm=true):bX X (.builtin "all") iO:=⟨_,Hg hc,fun ρ H st xs vs Q E s r h=>by
 obtain ⟨n,ys,rfl,hn,h⟩:=AE h
 obtain ⟨eZ,cE,h⟩:=jB h
 obtain ⟨v,rfl,rv⟩:=r.one
 obtain ⟨a,rfl,ha⟩:=rv
 obtain ⟨ws,hH,hR⟩:=s.addr cE ha
 cases hi:cV eZ with
 |none=>simp only [hi] at h;exact h.elim
 |some bs =>
  simp only [hi] at h
  have e:=A1 hi hR
  subst e
  exact ⟨a,bs,rfl,a_.of hH,Out.now (x:=PV.bl (bs.all id)) h s _ rfl⟩⟩
def Kl:bootBuiltins "all" = some (.builtin "all"):=by decide +kernel
inductive sd (X:Cx) (Er:XK):List (Option Expr)->List Expr->List ((Ai)×(Ai))->Prop
 |nil:sd X Er [] [] []
 |cons {k v:Expr} {fk fv:Ai} {ks:List (Option Expr)} {vs:List Expr} {fs:List ((Ai)×(Ai))} (hk:ME X Er k fk) (hv:ME X Er v fv) (hr:sd X Er ks vs fs):sd X Er (some k::ks) (v::vs) ((fk,fv)::fs)
end
section
variable {X:Cx} {K:Frag} {mg:Ab}
def call_len_dict:bq X (.builtin "len") (λxs H Q=>∃p kvs,xs=[.ref p]/\H p=some (.dK kvs)/\Q (.int kvs.length) H):=by
 intro pins s σ H xs us Q I r h
 obtain ⟨p,kvs,rfl,hp,q⟩:=h
 obtain ⟨u,rfl,rx⟩:=hZ r
 cases rx
 exact Hr I (.inl hp) λt s' I'=>⟨.int kvs.length,H,I',⟨t,rfl⟩,q⟩
def yz:Al:=λxs st=>match xs with
 | [.ref n]=>match st[n]? with
  |some (.dic ks _)=>.ok (.int ks.length) st
  |_=>oQ xs st
 |_=>oQ xs st
def j7:bX X (.builtin "len") yz:=by
 obtain ⟨r,h1,h2⟩:=IE (X:=X)
 refine ⟨_,h1.or call_len_dict,fun ρ H st xs vs Q E s rx h=>?_⟩
 by_cases hx:∃n ks ys,xs=[.ref n]/\st[n]?=some (.dic ks ys)
 ·obtain ⟨n,ks,ys,rfl,e⟩:=hx
  have h:Out X.K X.mg ρ H (.ok (.int ks.length) st) (gV X.K X.mg Q) E:=by
   simpa only [yz,e] using h
  obtain ⟨v,rfl,rv⟩:=Rs.one rx
  obtain ⟨a,ws,rfl,_,k1,k2,k3⟩:=R.refD s rv e
  refine .inr ⟨a,_,rfl,k1,?_⟩
  have hl:(kz ks ws).length=ks.length:=by simp [kz,k3]
  rw [hl]
  exact Out.now (x:=PV.int ks.length) h s _ rfl
 ·refine .inl (h2 ρ H st xs vs Q E s rx ?_)
  have:yz xs st=oQ xs st:=by
   unfold yz
   split
   ·rename_i n
    split
    ·rename_i ks ys e;exact absurd ⟨n,ks,ys,rfl,e⟩ hx
    ·rfl
   ·rfl
  rw [this] at h
  exact h
end
section
variable {U:Type} {env:za} {st:aj} {fo:Ai} {g:Aj}
def iP {n:Nat}{ks:Ad}{xs:An}(h:st[n]?=some (.dic ks xs)) (k:List Str->List PV->Res U):y3 st n k=k ks xs:=by unfold y3;rw [h]
def Km {n:Nat}{xs:An}(h:st[n]?=some (.lst xs)):iN [.ref n] st=.ok n st:=by
 show ym st n _=_
 rw [yH h]
def se {n:Nat}{bs:List Bool}(h:st[n]?=some (.lst (bs.map PV.bl))):iO [.ref n] st=.ok (.bl (bs.all id)) st:=by
 unfold iO
 rw [Km h]
 simp only [zA]
 rw [yH h,A3]
def o9 {n:Nat}{xs:An}(h:st[n]?=some (.lst xs)):yz [.ref n] st=.ok (.int xs.length) st:=by
 simp only [yz,h]
 show ym st n _=_
 rw [yH h]
@[simp] def A4 (n:Nat) (f:Nat->List Str->List PV->Res U):lq (.ref n) st f=y3 st n λks xs=>f n ks xs:=(rfl)
@[simp] def Ko (gt:PV->za->Option za):o8 fo gt g env st=(fo env st).bind λv au=>lq v au λn ks xs=>(bQ (dR gt g (ks.map PV.str) env (au.set n (.fdi ks xs)))).bind λe aK=>dA n aK λba=>.ok (.nx e) ba:=(rfl)
def A5 {n:Nat}{ks:Ad}{xs:An}(h:st[n]?=some (.fdi ks xs)) (f:aj->Res U):dA n st f=f (st.set n (.dic ks xs)):=by unfold dA;rw [h]
end
def Kp {K:Frag}{mg:Ab}{ρ:Ae}{H:Hp}:∀{xs:An}{zs:Ad}{vs:List V},strsOf xs=some zs->Rs K mg ρ H xs vs->vs=zs.map V.str:=λ{xs zs vs} h r=>by
 have:=rQ h r
 rw [this]
 simp [kV,List.map_map,Function.comp_def]
end Mi
namespace Mi
open PySem L2 PySem.W
section
variable {g g':Aj} {f fa fb:Ai} {fs:Ah} {t ta tb:Ak} {e e1:za} {st s1 s2 s3:aj} {x y v:PV} {xs:An} {b:Bool}
def zm {X:Res Fl}(h:g e st=.ok (.nx e1) s1) (h':g' e1 s1=X):zt g g' e st=X:=by rw [rM,h,zA,JE,h']
def yq (h:g e st=.ok (.rt v) s1):zt g g' e st=.ok (.rt v) s1:=by rw [rM,h,zA,JF]
def zV {i:Nat}(h:f e st=.ok v s1):zQ i f e st=.ok (.nx (e.set i (some v))) s1:=by rw [xV,h,zA]
def jX (h:f e st=.ok v s1):jD f e st=.ok (.nx e) s1:=by rw [xW,h,zA]
def zJ (h:f e st=.ok v s1):zF f e st=.ok (.rt v) s1:=by rw [xX,h,zA]
def z7 {X:Res Fl}(h:t e st=.ok true s1) (h':g e s1=X):zM t g g' e st=X:=by rw [xY,h,zA,zj rfl,h']
def Kq {X:Res Fl}(h:t e st=.ok false s1) (h':g' e s1=X):zM t g g' e st=X:=by rw [xY,h,zA,zx (by simp),h']
def zG (h:t e st=.ok false s1):zM t g zN e st=.ok (.nx e) s1:=Kq h (JD ..)
def zc {i:Nat}(h:e[i]?=some (some v)):zb i e st=.ok v st:=by rw [Jq,h]
def zk {op:Am}{X:Res PV}(h:fa e st=.ok x s1) (h':fb e s1=.ok y s2) (h2:op x y s2=X):zf op fa fb e st=X:=by rw [Jr,h,zA,h',zA,h2]
def yL {op:PV->Mo PV}{X:Res PV}(h:fa e st=.ok x s1) (h2:op x s1=X):yJ op fa e st=X:=by rw [Js,h,zA,h2]
def zv {m:Al}{X:Res PV}(h:fs e st=.ok xs s1) (h2:m xs s1=X):zo m fs e st=X:=by rw [JA,h,zA,h2]
def fU (h:f e st=.ok x s1) (h':fs e s1=.ok xs s2):ze f fs e st=.ok (x::xs) s2:=by rw [xS,h,zA,h',zA]
def yE:zg e st=.ok [] st:=(rfl)
def zD (h:f e st=.ok x s1):ze f zg e st=.ok [x] s1:=fU h yE
def zO (h:f e st=.ok x s1) (h':fa e s1=.ok y s2):ze f (ze fa zg) e st=.ok [x,y] s2:=fU h (zD h')
def A6 (h:fs e st=.ok xs s1) (hl:xs.length<=1000000):oJ fs e st=.ok (.tup xs) s1:=by rw [Jw,h,zA,zj hl]
def wv (h:fs e st=.ok xs s1) (hl:xs.length<=1000000):y1 fs e st=.ok (.ref s1.length) (s1++[.lst xs]):=by rw [xT,h,zA,zj hl]
def zn (h:f e st=.ok (.bl b) s1):mB f e st=.ok b s1:=by rw [Jt,h,zA,mJ]
def lr (h:ta e st=.ok false s1):wF ta tb e st=.ok false s1:=by rw [xP,h,zA,zx (by simp)]
def fB (h:ta e st=.ok true s1) (h':tb e s1=.ok b s2):wF ta tb e st=.ok b s2:=by rw [xP,h,zA,zj rfl,h']
def o_ (h:ta e st=.ok true s1):ju ta tb e st=.ok true s1:=by rw [xQ,h,zA,zj rfl]
def jw (h:ta e st=.ok false s1) (h':tb e s1=.ok b s2):ju ta tb e st=.ok b s2:=by rw [xQ,h,zA,zx (by simp),h']
def ja (h:ta e st=.ok b s1):yT ta e st=.ok (!b) s1:=by rw [Ju,h,zA]
def pd {X:Res PV}(h:fa e st=.ok (.bl true) s1) (h':fb e s1=X):iF fa fb e st=X:=by rw [Jv,h,zA,mJ,zA,zj rfl,h']
def ww {lo hi:Option Int}{fl fu:za->Mo (Option Int)}{X:Res PV}(h:fa e st=.ok x s1) (hl:fl e s1=.ok lo s2) (hu:fu e s2=.ok hi s3) (h':k7 x lo hi s3=X):jC fa fl fu e st=X:=by rw [Jx,h,zA,hl,zA,hu,zA,h']
def jY {i:Int}(h:f e st=.ok (.int i) s1):bA f e st=.ok (some i) s1:=by rw [Jy,h,zA,Jz]
def fC:bW e st=.ok none st:=(rfl)
def pe {op:Am}{n:Nat}{ys:An}{X:Res PV}(h:fa e st=.ok (.ref n) s1) (hl:s1[n]?=some (.lst ys)) (h':fb e s1=.ok y s2) (h2:op (.ref n) y s2=X):wt op fa fb e st=X:=by
 rw [x5,h,zA,x8]
 simp only [ym,hl,zA]
 rw [h',zA,h2]
def jl (i j:Int):zB (.int i) (.int j) st=.ok (.int (i+j)) st:=(rfl)
def gU (i j:Int):j4 (.int i) (.int j) st=.ok (.int (i-j)) st:=(rfl)
def gW (i j:Int) (h:j≠0):yK (.int i) (.int j) st=.ok (.int (jL i j)) st:=by show (if _ then _ else _)=_;rw [zj (by simpa using h)]
def Kr (i:Int) (n:Nat) (h:0<n):yK (.int i) (.int n) st=.ok (.int (i%(n:Int))) st:=by
 rw [gW i n (by omega)];unfold jL;rw [zj (by omega)]
def sf (i j:Int) (h:j≠0) (h2:j.natAbs<2 ^ 200):wZ (.int i) (.int j) st=.ok (.int (wY i j)) st:=by
 show (if _ then _ else _)=_
 rw [zj]
 simp only [rl,yC,yZ]
 exact ⟨h,h2⟩
def sh (i j:Int):wH (.int i) (.int j) st=.ok (.bl (decide (i<j))) st:=(rfl)
def si (i j:Int):wm (.int i) (.int j) st=.ok (.bl (decide (i<=j))) st:=(rfl)
def Ks (i j:Int):jS (.int i) (.int j) st=.ok (.bl (decide (j<i))) st:=(rfl)
def sj (i j:Int):yf (.int i) (.int j) st=.ok (.bl (decide (i=j))) st:=by simp [Mi.plain,dep,bD];rfl
def Kt (i j:Str):yf (.str i) (.str j) st=.ok (.bl (decide (i=j))) st:=by simp [Mi.plain,dep,bD];rfl
def Ku (i j:Str):k6 (.str i) (.str j) st=.ok (.bl (!decide (i=j))) st:=by simp [Mi.plain,dep,bD];rfl
def gX (i j:Int) (h:cx i j=true):jk (.int i) (.int j) st=.ok (.int (i*j)) st:=by rw [J1,zj h]
def zK {m:Nat}{n:Nat}{r:aj}(hl:xs.length=m) (h:g (xs.map some++List.replicate (n-m) none) st=.ok (.rt v) r):z6 m n g xs st=.ok v r:=by
 unfold z6
 rw [zj hl,h,zA,JG]
end
end Mi
namespace Mi
open PySem L2 PySem.W PySem.Spec
def A7:Expr->Bool
 |.Starred _ _=>false
 |_=>true
def Kv {e:Expr}{es:List Expr}{env:Env}(h:A7 e=true):AB e es env:=by cases e<;>first|rfl|cases h
def zh {X:Cx}{Er:XK}{e:Expr}{es:List Expr}{fa:Ai}{fs:Ah}(ha:ME X Er e fa) (hr:MA X Er es fs) (hs:A7 e=true:=by rfl):MA X Er (e::es) (ze fa fs):=xu ha hr (Kv hs)
section
variable {X:Cx} {Er:XK} {e o:Expr} {apos aS:Pos} {fo fa:Ai} {x:Str} {h:Heap}
def Kw:Am
 | .str z,.ref n,st=>ym st n λxs=>match strsOf xs with
  |some ys=>if (ys.map (·.length)).sum+ys.length*z.length<=1000000 then .ok (.str (Txt.join z ys)) st else .stuck
  |none=>.stuck
 |_,_,_=>.stuck
def fV (fo fa:Ai):Ai:=λenv st=>(fo env st).bind λo au=>match o with
 |.str z=>(fa env au).bind λy aK=>Kw (.str z) y aK
 |_=>.stuck
def zdo (ho:ME X Er o fo) (he:ME X Er e fa) (br:attributeBase o "join" X.env (eval o X.env)=eval o X.env:=by rfl)
  (eO:((backTo aS (starEach [e] X.env)).all (λx=>!x.1)&&(backToKw aS (keywordEach [] X.env)).all (λx=>x.1.isSome)&&decide ([e].length+([]:List Keyword).length+(if ([]:List Keyword).isEmpty then 0 else 1)<30))=true:=by rfl)
  (cm:(apos.endLine==aS.line)=true:=by rfl) (hs:starEach [e] X.env=(false,eval e X.env)::starEach [] X.env:=by rfl) (bj:(backTo aS (starEach [] X.env)).any (·.1)=false:=by rfl):ME X Er (.Call (.Attribute o "join" apos) [e] [] aS) (fV fo fa) :=
 PE.weak (qG PySem.F.plainAttrs_str PySem.F.slot_str_join PySem.F.type_str_join Hh ho (nW he nV hs) br eO cm hs bj) fun σ H Q ⟨env,st,ρ,re,rs,h⟩=>⟨env,st,ρ,re,rs,h.then λaa H1 x au e1 s1 h1 v rv=>by
  cases x with
  |str z =>
   cases rv
   refine ⟨rfl,env,au,aa,re.ext e1,s1,h1.then λai H2 y aK e2 s2 h2 w ck=>?_⟩
   cases y with
   |ref n =>
    obtain ⟨p,rfl,hp⟩:=ck
    obtain ⟨xs,hn,h3⟩:=jB h2
    cases hq:strsOf xs with
    |none=>simp only [hq] at h3;exact h3.elim
    |some ys =>
     simp only [hq] at h3
     obtain ⟨hl,h4⟩:=Out.ifp h3
     obtain ⟨vs,hH,hR⟩:=s2.addr hn hp
     rw [Kp hq hR] at hH
     exact ⟨z,p,ys,rfl,rfl,.inl (.inl hH),by omega,Out.now (x:=PV.str (Txt.join z ys)) h4 s2 _ rfl⟩
   |_=>exact h2.elim
  |_=>exact h1.elim⟩
end
end Mi
namespace PySem
section
variable {M:Model} {A:Around} {E:Aa}
variable {nm q Kx q':Str} {C N B N':Addr} {bs bm Ky sk:Af} {bM sr:Bool} {sn Kz:Ad} {sub A8:Af} {ab KA:Bool} {col A9:Option Bool} {dd kX:Option Addr} {k0 k1 k2 k3 k5 KC KG KH KI KJ:Option Value} {newId pf:String}
def A_ {h:Heap}{g:Array GenState}{d:Drawn}{t:Nat}{os:OsState}{e:Addr}{oe:Obj}{Q:Bool->Shared->Prop}
  (hC:h.get? C=some (excClassObj nm q C N bs bm bM sn sub ab col dd k0 k1 k2 k3 k5 newId)) (hB:h.get? B=some (excClassObj Kx q' B N' Ky sk sr Kz A8 KA A9 kX KC KG KH KI KJ pf)) (he:h.get? e=some oe) (dG:oe.cls=.ref C) (br:sk.contains (.type "BaseException")=true)
  (Ba:(Value.ref C::bm).contains (.ref B)=true) (hq:Q true ⟨h,g,d,t,os⟩):wpAny M A (excMatches (.ref e) (.ref B)) Q E ⟨h,g,d,t,os⟩:=by
 have qZ:(Value.ref B::sk).contains (.type "BaseException")=true:=by rw [List.contains_cons,br,Bool.or_true]
 have f:=tc_notTuple
 unfold excMatches
 repeat (first|(with_reducible refine wpAny_loadPart_at he ?_;rw [dG])|with_reducible refine wpAny_loadPart_at hB ?_|(with_reducible refine wpAny_isSubtype_exc hB ?_;rw [qZ])|(with_reducible refine wpAny_isSubtype_exc hC ?_;rw [Ba])|wp_step)
 exact hq
end
end PySem
namespace L2
open PySem PySem.Spec PyProof.Rows PySem.W
structure ExSub (K:Frag) (C B:Addr):Prop where
 of:ExOf K C
 sub:mroIn K C (.ref B)=some true
def ExSub.mem {K:Frag} {C B:Addr} (h:ExSub K C B):∃nm q N bs bm bM sn sub ab col dd k0 k1 k2 k3 k5,K.lookup C=some (excClassObj nm q C N bs bm bM sn sub ab col dd k0 k1 k2 k3 k5 "ValueError.__new__")/\(Value.ref C::bm).contains (.ref B)=true:=by
 obtain ⟨⟨⟨nm,q',N,bs,bm,bM,sn,sub,ab,col,dd,k0,k1,k2,k3,k5,hl,ht,_⟩,_⟩,hs⟩:=h
 refine ⟨nm,q',N,bs,bm,bM,sn,sub,ab,col,dd,k0,k1,k2,k3,k5,hl,?_⟩
 unfold mroIn clsIn at hs
 rw [hl] at hs
 obtain ⟨cd,a,b⟩:=Option.bind_eq_some_iff.mp hs
 split at b
 ·cases b
 ·have:cd.mro=Value.ref C::bm:=by
   simp [excClassObj] at a
   rw [<-a]
  rw [<-this]
  exact Option.some.inj b
def KL (K:Frag) (B:Addr) (j:Nat) (tv:TX) (tsu:TS):TS:=λD σ H=>tv σ H (λ_ H1=>D.nx σ H1)
 (λc d H1=>∃C,c=.ref C/\ExSub K C B/\∀a,H1 a=none->tsu { nx:=fun σ' H'=>D.nx (σ'.set j none) H',rt:=D.rt } (σ.set j (some (.ref a))) (upd H1 a (bS C d a)))
def KN {X:Cx}{B:Addr}{j:Nat}{n cls:Str}{value:Expr}{tv:TX}{tsu:TS}{b0:Stmt}{bh:List Stmt}{ap cp hp pos:Pos}(hN:X.N.Nodup) (hj:X.N[j]?=some n) (hn:X.env.scope.names.lookup n=some .local)
  (hv:PX X value tv) (hg:Gl X cls) (hm:X.mg cls=some (.ref B)) (hB:ExOf X.K B) (iQ:∀a,b6 (X.caught a) (b0::bh) tsu) (cF:X.stack=X.env::X.outer) (cz:X.env.frame=some X.env.locals)
  (e7:swapsWith value none ap.line X.env=pure false:=by rfl) (bC:(cls==("__debug__" : Str))=false:=by decide) :
  PS X (.Try [.Expr value ap] [.ExceptHandler (some (.Name cls cp)) (some n) (b0::bh) hp] [] [] pos) (KL X.K B j tv tsu):=by
 intro pins s σ H D I h
 rw [arm_exec_Try]
 refine zy (wpAny_standAt (wpAny_tryStmt_except (wpAny_execs_cons (wpAny_Expr_any (yM (hv pins s σ H _ _ I h) (λv s1 ⟨y,H1,I1,r1,q1⟩=>?_) (λu s1 ⟨a,C',d,H1,eu,I1,su,C,ec,hC,q⟩=>?_)) I.quiet e7))))
 ·exact wpAny_execs_nil (wpAny_execs_nil ⟨_,H1,I1,q1⟩)
 subst eu
 cases ec
 refine qX I1 I.ok.frames cF cz su λs2 T I2 x2 ne my oa oT=>mq I2 x2 ne my oa oT λs3 I3 x3 iE=>?_
 refine wpAny_handleBy_cons (codeAny_handlers_test ?_) (by intro q;cases q)
 refine gp (X:=X.caught a) (Inv.caught I3 a) hg hm ?_ bC
 obtain ⟨nm,q',N,bs,bm,bM,sn,sub,ab,col,dd,k0,k1,k2,k3,k5,hl,hs⟩:=hC.mem
 obtain ⟨⟨KO,qB,NB,KP,iD,KQ,KR,subB,KS,Bb,KU,l0,l1,l2,l3,l5,sv,sx,_⟩,_⟩:=hB
 have lh:=I3.kIn _ _ hl
 have sy:=I3.kIn _ _ sv
 have br:iD.contains (.type "BaseException")=true:=(tail_of_in I3.kIn sx).hasType (by decide)
 obtain ⟨oe,vs,he,dG,_⟩:=id x3
 refine A_ (h:=s3.heap) (g:=s3.gens) (d:=s3.drawn) (t:=s3.toks) (os:=s3.os) lh sy he dG br hs ?_
 refine codeAny_handlers_suite_as (mq I3 x3 ne iE oa oT λs4 I4 x4 KW=>?_)
 have I5:=Inv.catch I4 oa x4
 refine kO I5 hN hj (.inl hn) (v:=.ref a) rfl (λs5 I6=>?_) (.inr hn)
 refine yM (iQ a pins s5 _ _ _ (Inv.caught I6 a) (q a oa.1)) (λf s6 z=>?_) λ_ _ z=>z.elim
 cases f with
 |next =>
  obtain ⟨σ',H',I7,q7⟩:=z
  exact oE (Inv.uncaught I.ok I7) hN hj hn λs7 I8=>⟨_,H',I8,q7⟩
 |brk=>obtain ⟨_,_,_,z⟩:=z;exact z.elim
 |cont=>obtain ⟨_,_,_,z⟩:=z;exact z.elim
 |ret u =>
  obtain ⟨v,σ',H',I7,r7,q7⟩:=z
  exact oE (Inv.uncaught I.ok I7) hN hj hn λs7 I8=>⟨v,_,H',I8,r7,q7⟩
end L2
namespace Mi
open PySem L2 PySem.W PySem.Spec
section
variable {X:Cx} {Er:XK} {pos:Pos}
def mT (j:Nat) (sub:Str->Bool) (fv:Ai) (bh:Aj):Aj:=λenv st=>match fv env st with
 |.ok _ au=>.ok (.nx env) au
 |.err c ks xs au=>if sub c=true then (bQ (bh (env.set j (some (.exo c ks xs))) au)).bind (mL j) else .stuck
 |.stuck=>.stuck
def KY (j:Nat) {n cn:Str}{sub:Str->Bool}{value:Expr}{fv:Ai}{gs:Aj}{b0:Stmt}{bh:List Stmt}{ap cp hp:Pos}(hB:∃B,X.mg cn=some (.ref B)/\ExOf X.K B/\∀c,sub c=true->∃C,X.mg c=some (.ref C)/\ExSub X.K C B) (hv:MX X value fv) (iQ:∀a,df (X.caught a) E0 (b0::bh) gs) (hN:X.N.Nodup)
  (cF:X.stack=X.env::X.outer:=by rfl) (cz:X.env.frame=some X.env.locals:=by rfl) (hj:X.N[j]?=some n:=by rfl) (hn:X.env.scope.names.lookup n=some .local:=by rfl) (hg:Gl X cn:=by rfl)
  (e7:swapsWith value none ap.line X.env=pure false:=by rfl) (bC:(cn==("__debug__" : Str))=false:=by decide) :
  MS X Er (.Try [.Expr value ap] [.ExceptHandler (some (.Name cn cp)) (some n) (b0::bh) hp] [] [] pos) (mT j sub fv gs):=by
 obtain ⟨B,sA,hB,cv⟩:=hB
 exact PS.weak (KN (tsu:=sM X.K X.mg E0 gs) hN hj hn hv hg sA hB iQ cF cz e7 bC) λD σ H ⟨env,st,ρ,re,rs,h⟩=>by
  refine ⟨env,st,ρ,re,rs,?_⟩
  unfold mT at h
  cases hr:fv env st with
  |ok y au =>
   rw [hr] at h
   exact λaa H1 e1 s1 v rv=>h aa H1 e1 s1 _ (re.ext e1)
  |stuck=>rw [hr] at h;exact h.elim
  |err c ks xs au =>
   simp only [hr] at h
   obtain ⟨sC,h2⟩:=Out.ifp h
   obtain ⟨C0,hm,sD⟩:=cv c sC
   intro aa H1 Cv d e1 s1 xr
   obtain ⟨C',rfl,hm',hd⟩:=xr
   rw [hm] at hm'
   cases hm'
   refine ⟨C0,rfl,sD,λq hq=>?_⟩
   have go:∀d,(upd H1 q (bS C0 d q))=(upd H1 q (bS C0 d q))->R X.K X.mg aa (upd H1 q (bS C0 d q)) (.exo c ks xs) (.ref q)->sM X.K X.mg E0 gs { nx:=fun σ' H'=>D.nx (σ'.set j none) H',rt:=D.rt } (σ.set j (some (.ref q))) (upd H1 q (bS C0 d q)):=λd _ r=>by
    have eq:Ext aa H1 aa (upd H1 q (bS C0 d q)):=Ext.new hq
    refine ⟨env.set j (some (.exo c ks xs)),au,aa,((re.ext e1).ext eq).set j r,s1.new hq,iK (Out.ext h2 (e1.trans eq)) λai H2 fl aK e2 s2 h2=>?_⟩
    cases fl with
    |nx e=>exact λaz r2=>Out.fl (D:=D) (fl:=.nx (e.set j none)) (E:=Er) h2 s2 _ (r2.unset j)
    |rt y=>exact λv2 r2=>Out.fl (D:=D) (fl:=.rt y) (E:=Er) h2 s2 _ r2
    |_=>exact h2.elim
   rcases hd with ⟨mU,rfl⟩|⟨dd,vs,rfl,fW,hR,hl⟩
   ·exact go none rfl ⟨q,C0,rfl,hm,.inl ⟨mU,yD⟩⟩
   ·have eq:Ext aa H1 aa (upd H1 q (bS C0 (some dd) q)):=Ext.new hq
    exact go (some dd) rfl ⟨q,C0,rfl,hm,.inr ⟨dd,vs,yD,eq.imm _ _ fW rfl,Rs.ext eq xs hR,hl⟩⟩
end
end Mi
namespace L2
open PySem PySem.Spec PyProof.Rows PySem.W
def Bc (a:Addr) (o:Obj) (kvs:List (Key×V)):It :=
 ⟨λi H=>H a=some (.frz o (.dK kvs))/\i<kvs.length,λi H x H'=>H'=H/\∃kv,kvs[i]?=some kv/\x=kv.2,λi H=>H a=some (.frz o (.dK kvs))/\kvs.length<=i⟩
def KV.nth {κ:Type}{kvs:List (κ×V)}{vs:List (κ×Value)}(r:KV kvs vs):∀{i:Nat}{p:κ×V}{q:κ×Value},kvs[i]?=some p->vs[i]?=some q->RelV p.2 q.2:=by
 unfold KV at r
 induction r with
 |nil=>intro i p q h;simp at h
 |cons h t ih =>
  intro i p q h1 h2
  cases i with
  |zero=>cases h1;cases h2;exact h.2
  |succ i=>exact ih (by simpa using h1) (by simpa using h2)
def KZ {P:Program}{w:World}{K:PySem.W.Frag}{tg:Expr}{a it:Addr}{o:Obj}{kvs:List (Key×V)}{es:Array DictEntry}{ep:Nat}(hd:o.data=.dict es ep):Turn P w K tg (Bc a o kvs) [it] it (λi h=>h.IsValIter it a i kvs.length ep) where
 mem:=by simp
 obj:=λi h st b hb=>by
  have e:b=it:=by simpa using hb
  subst e
  obtain ⟨o,e,c,d⟩:=st
  exact ⟨o,e,λv z=>by rw [d] at z;cases z⟩
 keep:=λi h h' st k=>st.at λo e=>k it (by simp) o e
 item:=by
  intro X hP hw hK hc i pins s σ H E I hf st hg
  subst hP hw hK
  obtain ⟨ha,hi⟩:=hg
  obtain ⟨vs,r,dn⟩:=o7 I ha hd
  have hl:=r.length
  have hv:vs[i]?=some (vs[i]'(by omega)):=yc (by omega)
  have eD:kvs[i]?=some kvs[i]:=yc hi
  obtain ⟨f0,f1,f2,f3,f4,f5⟩:=hf it (by simp)
  rw [hl] at st
  refine wpAny_pyNext_values_item st dn (k:=(vs[i]'(by omega)).1) (v:=(vs[i]'(by omega)).2) hv λh' aR sb=>?_
  have I1:Inv X pins σ H { s with heap:=h' }:=I.turned (t':=s.toks) (λb o hb e=>(sb.2 b hb).trans e) f0 f1 f3 f4 f5
  obtain ⟨o',e,c,d⟩:=id aR
  refine ⟨(vs[i]'(by omega)).2,rfl,kQ (s:={ s with heap:=h' }) e c d (by decide) ⟨kvs[i].2,H,I1,?_,⟨rfl,_,eD,rfl⟩,by rw [<-hl] at aR;exact aR,λb hb=>(hf b hb).1⟩⟩
  exact r.nth eD hv
 done:=by
  intro X hP hw hK hc i pins s σ H E I hf st hg
  subst hP hw hK
  obtain ⟨ha,hi⟩:=hg
  obtain ⟨vs,r,dn⟩:=o7 I ha hd
  have hl:=r.length
  obtain ⟨f0,f1,f2,f3,f4,f5⟩:=hf it (by simp)
  rw [hl] at st
  exact wpAny_pyNext_values_end (I.ok.hd hc) st dn (hW.mpr (by omega)) λh' eb=>⟨rfl,I.turned (t':=s.toks) (λb o hb e=>eb b o hb e) f0 f1 f3 f4 f5⟩
 self:=λ_ _ _ _ _ st h=>wpAny_pyIter_valiter st h
def K0 (X:Cx) (tl:TE):TI:=fun σ H R=>tl σ H λx H1=>∃a kvs,x=.ref a/\H1 a=some (.dK kvs)/\∀o,kvs.length<=sizeLine->(∀o u,X.H₀ a≠some (.frz o u))->R (Bc a o kvs) (upd H1 a (.frz o (.dK kvs)))
def K1 {X:Cx} {o tg:Expr} {tl:TE} {apos aS:Pos} (ho:PE X o tl) (br:attributeBase o "values" X.env (eval o X.env)=eval o X.env:=by rfl) (cm:(apos.endLine==aS.line)=true:=by rfl):PI X tg (.Call (.Attribute o "values" apos) [] [] aS) (K0 X tl):=by
 intro pins s σ H R I h
 refine wpAny_Call_method0_late br cm (aO (ho pins s σ H _ I h) λv s1 ⟨x,H1,I1,r1,q1⟩=>?_)
 obtain ⟨a,kvs,rfl,e,q⟩:=q1
 obtain rfl:v=Value.ref a:=r1
 obtain ⟨hz,lo,kv,gY,hd⟩:=gE I1.hok (.inl e)
 obtain ⟨ep,dn⟩:=hd.dictAt
 obtain ⟨dM,Pp,vs,r,o,es,kN,ho',hx,fW,hr⟩:=I1.hok a _ e
 have I2:=I1.freeze e ho'
 have hle:s1.heap.objs.size<=(s1.heap.push { cls:=.type "dict_values", data:=.fields #[.ref a] }).objs.size:=by rw [Heap.size_push];exact Nat.le_succ _
 have fr:∀b,s1.heap.objs.size<=b->(upd H1 a (.frz o (.dK kvs))) b=none:=λb hb=>I2.hok.fresh hb
 have Bd:s1.heap.DictAt (aX X.prog X.w) a vs kN:=⟨o,es,ho',hx,fW,hr⟩
 refine ⟨"dict", "dict.values", PySem.F.plainAttrs_dict,PySem.F.slot_dict_values,PySem.F.type_dict_values,?_,?_,Calls.callWith_builtin rfl (PySem.evalArgs_none (call_meetsIn PySem.F.slot_dict_values hd.typeIs PySem.F.entry_dict_values (PySem.F.args_dict_values_1 _) (meets_dict_values (aX X.prog X.w) a lo) ⟨⟨kv,hd⟩,?_⟩))⟩
 ·exact (qF I1 (x:=.ref a) rfl (.inr (.inr (.inl ⟨rfl,.inl ⟨_,e⟩⟩)))).1
 ·exact (qF I1 (x:=.ref a) rfl (.inr (.inr (.inl ⟨rfl,.inl ⟨_,e⟩⟩)))).2
 refine wpAny_pyIter_values (s:={ s1 with heap:=s1.heap.push { cls:=.type "dict_values", data:=.fields #[.ref a] } }) ⟨_,yV _ rfl,rfl,rfl⟩ (Bd.push _) ?_
 refine ⟨_,[(s1.heap.push { cls:=.type "dict_values", data:=.fields #[.ref a] }).objs.size],_,_,_,rfl,I2.kept (t':=s1.toks) (λb o e=>z8 _ (z8 _ e)),KZ fW,?_,λb hb=>?_,q o dM (I1.young e)⟩
 ·rw [r.length]
  exact ⟨_,yV _ rfl,rfl,rfl⟩
 ·have eb:b=(s1.heap.push { cls:=.type "dict_values", data:=.fields #[.ref a] }).objs.size:=by simpa using hb
  subst eb
  exact I2.fpOk hle (fr _ hle)
end L2
namespace Mi
open PySem L2 PySem.W PySem.Spec
section
variable {X:Cx} {Er:XK} {pos:Pos} {o:Expr} {fo:Ai}
def ph (fo:Ai) (fe:Ai):Ai:=λenv st=>(fo env st).bind λv au=>lq v au λn ks xs =>
 (bQ (dB fe env xs [] (au.set n (.fdi ks xs)))).bind λys aK=>dA n (aK++[.lst ys]) λba=>.ok (.ref aK.length) ba
def K2 {elt:Expr} {apos aS:Pos} {x:Str} {px:Pos} {scope:Scope} {fe:Ai} {N:Ad} (hc:X.calm=true) (S:b_ X.env.scope scope x) (eN:X.N=N) (cX:((".0" : Str)::x::N).Nodup)
  (ho:ME X Er o fo) (he:∀cl C ae ah fp,ME (qK X scope cl x C ae ah fp (λ_ _=>False)) XN elt fe)
  (br:attributeBase o "values" X.env (eval o X.env)=eval o X.env:=by rfl) (cm:(apos.endLine==aS.line)=true:=by rfl) (hs:∀v,foldedSetIterable (.Call (.Attribute o "values" apos) [] [] aS) X.env v=pure v:=by intro _;rfl):ME X Er (.ListComp elt [⟨.Name x px,.Call (.Attribute o "values" apos) [] [] aS,[],0⟩] scope pos) (ph fo fe) :=
 PE.weak (Kf (Hc (te:=tM X.K X.mg XN fe) hc S eN cX (K1 ho br cm) (λcl C ae ah fp=>he cl C ae ah fp) hs)) fun σ H Q ⟨env,st,ρ,re,rs,h⟩=>⟨env,st,ρ,re,rs,h.then λal H0 x fA e0 s0 h0 v rv=>by
  obtain ⟨n,ks,xs,rfl,hn,h0⟩:=AX h0
  obtain ⟨a,vs,rfl,ha,k1,k2,k3⟩:=R.refD s0 rv hn
  refine ⟨a,kz ks vs,rfl,k1,λob hz hy=>?_⟩
  obtain ⟨a8,aR,hr,h0⟩:=AZ h0
  obtain ⟨dz,eZ,ht,h0⟩:=AY h0
  have ew:Ext al H0 al (upd H0 a (.frz ob (.dK (kz ks vs)))):=Ext.write k1 rfl
  have hl:(kz ks vs).length=ks.length:=by simp [kz,k3]
  rw [hl] at hz
  refine ⟨λi m ys H=>m=ks.length-i/\i<=ks.length/\ys.length=i/\∃ps st ρ,Rs X.K X.mg ρ H ps ys/\aZ X.K X.mg ρ H st/\Ext al (upd H0 a (.frz ob (.dK (kz ks vs)))) ρ H/\dB fe env (xs.drop i) ps st=.ok a8 aR,
   ⟨ks.length,by simp,jP _,rfl,[],_,al,rfl,s0.write (so:=.fdi ks xs) ha ew ⟨ob,vs,yD,Rs.ext ew _ k2,k3⟩,Ext.refl,hr⟩,?_⟩
  rintro i m ys H ⟨rfl,hi,K3,ps,st,ρ,dQ,rs,ex,h⟩
  have hf:H a=some (.frz ob (.dK (kz ks vs))):=ex.imm a _ yD rfl
  have r8:=ex.get ha
  by_cases bg:i<ks.length
  ·refine .inr ⟨⟨hf,by rw [hl];exact bg⟩,by omega,λv H' y=>?_⟩
   obtain ⟨rfl,kv,eD,rfl⟩:=y
   have lx:xs.length=ks.length:=by rw [k2.len,<-k3]
   have hx:xs[i]?=some (xs[i]'(by omega)):=yc (by omega)
   obtain ⟨v',qw,rx⟩:=Rs.get k2 hx
   have ev:R X.K X.mg ρ H' (xs[i]'(by omega)) kv.2:=by
    have:v'=kv.2:=by
     unfold kz at eD
     rw [List.getElem?_zip_eq_some] at eD
     rw [qw] at eD
     exact Option.some.inj eD.2
    rw [<-this]
    exact R.ext (ew.trans ex) _ rx
   have hd:xs.drop i=(xs[i]'(by omega))::xs.drop (i+1):=fJ (by omega)
   rw [hd] at h
   simp only [dB] at h
   obtain ⟨y,aK,r9,h⟩:=A0 h
   refine ⟨some (xs[i]'(by omega))::env,st,ρ,(re.ext (e0.trans (ew.trans ex))).cons ev,rs,?_⟩
   rw [r9]
   exact λak H3 e3 s3 w ck=>⟨ks.length-(i+1),by omega,rfl,bg,by simp [K3],ps++[y],aK,ak,Rs.snoc ck (Rs.ext e3 ps dQ),s3,ex.trans e3,h⟩
  ·have e:i=ks.length:=by omega
   subst e
   rw [kJ (by rw [k2.len,<-k3];exact z0 _)] at h
   cases h
   refine .inl ⟨⟨hf,by rw [hl];exact z0 _⟩,by omega,λl c4=>?_⟩
   have ne:a≠l:=wD hf c4
   have Be:upd H l (.lst ys) a=some (.frz ob (.dK (kz ks vs))):=by rw [zR ne];exact hf
   have ep:Ext ρ H (ρ++[l]) (upd H l (.lst ys)):=Ext.push c4
   have s1:aZ X.K X.mg (ρ++[l]) (upd H l (.lst ys)) (aR++[.lst a8]):=rs.push c4 ⟨ys,yD,Rs.ext ep _ dQ⟩
   exact ⟨a,ob,_,Be,hy,h0 (ρ++[l]) _ (Ext.thawed k1 (ex.trans ep)) (aZ.thaw s1 (ep.get r8) Be ht) _ ⟨l,rfl,by rw [<-rs.len];simp⟩⟩⟩
end
end Mi
namespace L2
open PySem PySem.Spec PyProof.Rows PySem.W PySem.Builtin PySem.Builtin.ObjectAttr
def ExOf.mk' {K:Frag}{C N:Addr}{nm q:Str}{bs:Af}{bM:Bool}{sn:Ad}{sub:Af}{ab:Bool}{col:Option Bool}{dd:Option Addr}{k0 k1 k2 k3 k5:Option Value}{c:Value}{d:Option Addr}{es:Array DictEntry}{n:Nat}{sl:Array (Option Value)}
  (hC:K.lookup C=some (excClassObj nm q C N bs cQ bM sn sub ab col dd k0 k1 k2 k3 k5 "ValueError.__new__"))
  (hN:K.lookup N=some ⟨c,d,.dict es n,sl⟩) (he:(es.all λe=>match e.key with | .str _ _=>true|_=>false)=true) (kp:keepIn K (.ref C)=true):ExOf K C:=by
 refine ⟨⟨nm,q,N,bs,_,bM,sn,sub,ab,col,dd,k0,k1,k2,k3,k5,hC,?_,?_⟩,kp⟩
 ·unfold tailIn;rw [beq_self_eq_true,Bool.true_or]
 ·unfold nsOkIn
  rw [hN]
  exact he
end L2
namespace Mi
open PySem L2 PySem.W PySem.Spec
section
variable {K:Frag} {mg:Ab} {h:Heap} {C:Addr}
def zpA {c cb:Str}{B:Addr}(X:K.In h) (G:h.Ns mainGlobals mg) (hB:mg cb=some (.ref B)) (hx:∃C,mg c=some (.ref C)/\ExOf K C) (aC:nsIn K mainGlobals c=some (some (.ref C))) (aB:nsIn K mainGlobals cb=some (some (.ref B))) (hm:mroIn K C (.ref B)=some true):∃C,mg c=some (.ref C)/\ExSub K C B:=by
 obtain ⟨C',h1,h2⟩:=hx
 rw [mg_of X G aC] at h1
 cases h1
 exact ⟨C,mg_of X G aC,h2,hm⟩
def zpB {c:Str}{N:Addr}{nm q:Str}{bs:Af}{bM:Bool}{sn:Ad}{sub:Af}{ab:Bool}{col:Option Bool}{dd:Option Addr}{k0 k1 k2 k3 k5:Option Value}{cc:Value}{d:Option Addr}{es:Array DictEntry}{n:Nat}{sl:Array (Option Value)}(X:K.In h) (G:h.Ns mainGlobals mg) (aC:nsIn K mainGlobals c=some (some (.ref C)))
  (hC:K.lookup C=some (excClassObj nm q C N bs cQ bM sn sub ab col dd k0 k1 k2 k3 k5 "ValueError.__new__")) (hN:K.lookup N=some ⟨cc,d,.dict es n,sl⟩) (he:(es.all λe=>match e.key with | .str _ _=>true|_=>false)=true) (kp:keepIn K (.ref C)=true):mg c=some (.ref C)/\ExOf K C :=
 ⟨mg_of X G aC,ExOf.mk' hC hN he kp⟩
end
section
variable {X:Cx} {Er:XK} {e o:Expr} {p apos:Pos} {fo fa:Ai}
def Bf:Am
 | .ref n,.int i,st=>if i=0 then ym st n λxs=>match xs with
  |y::r=>.ok y (st.set n (.lst r))
  |[]=>.stuck
  else .stuck
 |_,_,_=>.stuck
def zpC {aS:Pos} (ho:ME X Er o fo) (he:ME X Er e fa) (br:attributeBase o "pop" X.env (eval o X.env)=eval o X.env:=by rfl)
  (eO:((backTo aS (starEach [e] X.env)).all (λx=>!x.1)&&(backToKw aS (keywordEach [] X.env)).all (λx=>x.1.isSome)&&decide ([e].length+([]:List Keyword).length+(if ([]:List Keyword).isEmpty then 0 else 1)<30))=true:=by rfl)
  (cm:(apos.endLine==aS.line)=true:=by rfl) (hs:starEach [e] X.env=(false,eval e X.env)::starEach [] X.env:=by rfl) (bj:(backTo aS (starEach [] X.env)).any (·.1)=false:=by rfl):ME X Er (.Call (.Attribute o "pop" apos) [e] [] aS) (wt Bf fo fa) :=
 PE.weak (qG PySem.F.plainAttrs_list PySem.F.slot_list_pop PySem.F.type_list_pop GS ho (nW he nV hs) br eO cm hs bj) fun σ H Q ⟨env,st,ρ,re,rs,h⟩=>⟨env,st,ρ,re,rs,h.then λaa H1 x au e1 s1 h1 v rv=>by
  obtain ⟨n,xs,rfl,hn,h1⟩:=xM h1
  obtain ⟨p,vs,rfl,hp,k1,k2⟩:=R.refL s1 rv hn
  refine ⟨.inl ⟨rfl,vs,a_.of k1⟩,env,au,aa,re.ext e1,s1,h1.then λai H2 y aK e2 s2 h2 w rw=>?_⟩
  cases y with
  |int i =>
   cases rw
   obtain ⟨hi,h2⟩:=Out.ifp h2
   subst hi
   obtain ⟨xs2,eo,h2⟩:=jB h2
   obtain ⟨p',iC,e3,cY,k3,k4⟩:=R.refL s2 (R.ext e2 _ rv) eo
   cases e3
   cases xs2 with
   |nil=>exact h2.elim
   |cons y r =>
    obtain ⟨u,us,rfl,ru,K4⟩:=k4
    have ew:Ext ai H2 ai (upd H2 p (.lst us)):=Ext.write k3 rfl
    exact ⟨p,u::us,0,0,u,rfl,rfl,k3,by decide,by decide,by simp [seqIndex?],rfl,h2 ai _ ew (s2.write cY ew ⟨us,yD,Rs.ext ew _ K4⟩) _ (R.ext ew y ru)⟩
  |_=>exact h2.elim⟩
def lA:Al:=λxs st=>match xs with
 | [.str z]=>match PySem.intText? z with
  |some n=>if z.length<=640 then .ok (.int n) st else .stuck
  |none=>.stuck
 |_=>.stuck
end
end Mi
namespace Mi
open PySem L2 PySem.W PySem.Spec PyProof.Rows
def cf (a b:Str):Bool:=decide (a.cps.toList<=b.cps.toList)
def aL (ks:Ad):Ad:=ks.mergeSort cf
def lB (a b c:Str) (h:cf a b=true) (h':cf b c=true):cf a c=true:=by
 unfold cf at *
 rw [yZ] at *
 exact List.le_trans h h'
def mV (a b:Str):(cf a b||cf b a)=true:=by
 unfold cf
 rw [Bool.or_eq_true,yZ,yZ]
 exact List.le_total _ _
def sE {a b:Str}(h:cf a b=true) (h':cf b a=true):a=b:=by
 unfold cf at *
 rw [yZ] at *
 have:=List.le_antisymm h h'
 cases a;cases b
 simp only at this
 rw [Str.mk.injEq]
 exact Array.toList_inj.mp this
theorem Bg:∀(l:Ad) (p:Str),risingS p l=true->(∀x∈l,cf p x=true)/\l.Pairwise (λa b=>cf a b=true)
 |[],p,_=>⟨(λx h=>by cases h),.nil⟩
 |q::r,p,h=>by
  have e:risingS p (q::r)=(!Spec.ltCps q.cps.toList p.cps.toList&&risingS q r):=rfl
  rw [e,yC,Bool.not_eq_true',ltCps_eq,decide_eq_false_iff_not,List.not_lt] at h
  obtain ⟨h1,h2⟩:=Bg r q h.2
  have pq:cf p q=true:=by unfold cf;rw [yZ];exact h.1
  refine ⟨λx hx=>?_,.cons h1 h2⟩
  rcases yn.mp hx with rfl|hx
  ·exact pq
  ·exact lB _ _ _ pq (h1 x hx)
def K5 {l:Ad}(h:sortedS l=true):l.Pairwise (λa b=>cf a b=true):=by
 cases l with
 |nil=>exact .nil
 |cons p r=>obtain ⟨h1,h2⟩:=Bg r p h;exact .cons h1 h2
def Bh {ks ss:Ad}(hp:ss.Perm ks) (hs:sortedS ss=true):ss=aL ks :=
 List.Perm.eq_of_pairwise (le:=λa b=>cf a b=true) (λa b _ _ h h'=>sE h h') (K5 hs) (List.pairwise_mergeSort lB mV ks) (hp.trans (List.mergeSort_perm ks cf).symm)
section
variable {prog:Program} {w:World} {A:Around} {E:Aa} {s:Shared}
def Bi {h:Heap} {a:Addr} {vs:Af} {n:Nat} (ho:h.get? a=some (seqObj "list" vs.toArray n)) (out:Array Value):∃e,(sortedHeap h a vs out).get? a=some (seqObj "list" out e):=by
 have ha:=yb ho
 have h1:=get?_update_seq ho (λ_=>#[])
 have h2:(((h.update a (Obj.mapSeq λ_=>#[])).push (seqObj "tuple" vs.toArray 0)).push (seqObj "list" #[] 0)).get? a=some (seqObj "list" #[] (if ((#[]:Array Value).size==vs.toArray.size)=true then n else n+1)):=z8 _ (z8 _ h1)
 exact ⟨_,get?_update_seq h2 (λ_=>out)⟩
def Bj {h:Heap}{a:Addr}{vs:Af}{out:Array Value}{b:Addr}{o:Obj}(hb:b≠a) (e:h.get? b=some o):(sortedHeap h a vs out).get? b=some o:=by
 unfold sortedHeap
 rw [Heap.get?_update_ne _ _ _ _ hb]
 refine z8 _ (z8 _ ?_)
 rw [Heap.get?_update_ne _ _ _ _ hb]
 exact e
def K6 {K:Type} [DecidableEq K] {knd:KeyKind prog w K}{d:Addr}{kvs:List (K×Value)}{ep:Nat}{ss:Ad}{Q:Aa}(hh:A.handled=none) (lo:(d==sysModules)=false) (dn:s.heap.DictAt knd d kvs ep) (fX:kvs.length<64)
  (hS:∀vs:Af,vs.length=kvs.length->(∀(j:Nat) (v:Value),vs[j]?=some v->∃k x,kvs[j]?=some (k,x)/\knd.is k v=true)->StrsAre vs ss)
  (h:∀(h1 h2:Heap) (tk:Nat) (out:Af) (e:Nat),(∀b o,s.heap.get? b=some o->h1.get? b=some o)->(∀b o,h1.get? b=some o->h2.get? b=some o)->h2.get? h1.objs.size=some (seqObj "list" out.toArray e)->StrsAre out (aL ss)->Q (.ref h1.objs.size) { s with heap:=h2,toks:=tk }) :
  wpAny (model prog w) A (call (.builtin "sorted") [.ref d]) Q E s:=by
 refine Calls.call_function_entry kind_sorted plain_sorted entry_sorted (args_sorted1 _) ?_
 unfold Builtin.«sorted»
 refine zy (m:=checkCount "sorted" 1 1 _) (zW ?_)
 refine zy (kdu_collect (A:=A.in1) (kdl_dict (knd:=knd) (kvs:=kvs) (ep:=ep) lo) hh dn (by rw [sizeLine_eq];omega) λh' tk acc hk fG=>?_)
 have hl:acc.toList.length=kvs.length:=by rw [Array.length_toList];exact fG.1
 refine zy (wpAny_newList ?_ (by rw [hl,sizeLine_eq];omega))
 have sF:=hS acc.toList hl (λj v e=>fG.2 j v (by rw [<-Array.getElem?_toList];exact e))
 have fj:(h'.push (seqObj "list" acc.toList.toArray 0)).get? h'.objs.size=some (seqObj "list" acc.toList.toArray 0):=yV _ rfl
 refine zy (fI (wpAny_call_entry (s:={ s with heap:=h'.push (seqObj "list" acc.toList.toArray 0),toks:=tk }) slot_list_sort ⟨_,fj,rfl⟩ entry_list_sort (list_sort_treeK (s:={ s with heap:=h'.push (seqObj "list" acc.toList.toArray 0),toks:=tk }) strKind_oneLt fj sF.keysOf (λaJ aI rest e=>keyKind_strs (by rw [<-e];exact sF)) (by rw [hl];exact fX) λaR a1 a2=>⟨_,rfl,?_⟩) (args_list_sort _)))
 obtain ⟨K7,q1,q2,q3⟩:=sorted_out_str sF a1 a2
 obtain ⟨e,he⟩:=Bi fj ((arrOf aR).map (·.2))
 rw [Bh q2 q3] at q1
 exact zW ⟨_,rfl,h h' _ tk _ e hk (λb o eb=>Bj (yB (yb eb)) (z8 _ eb)) he q1⟩
end
section
variable {X:Cx}
theorem sG:∀{out:Af}{ss:Ad},StrsAre out ss->Vals (ss.map V.str) out
 |_,_,.nil=>.nil
 |_,_,.cons y t h=>.cons ⟨t,rfl⟩ (sG h)
def K8:List V->Hp->VK->Prop:=λxs H Q=>∃a ks ws,xs=[.ref a]/\H a=some (.dK (kz ks ws))/\ks.length=ws.length/\ks.length<64/\∀l,H l=none->Q (.ref l) (upd H l (.lst ((aL ks).map V.str)))
def K9 {ks:Ad}{ws:List V}{kv:List (Key×Value)}(hl:ks.length=ws.length) (r:KV (kz ks ws) kv) {vs:Af}(hlen:vs.length=kv.length) (h:∀(j:Nat) (v:Value),vs[j]?=some v->∃k x,kv[j]?=some (k,x)/\cL k v=true):StrsAre vs ks:=by
 induction ks generalizing ws kv vs with
 |nil =>
  cases ws with
  |nil =>
   cases r
   cases vs with
   |nil=>exact .nil
   |cons v vs=>simp at hlen
  |cons w ws=>simp at hl
 |cons k ks ih =>
  cases ws with
  |nil=>simp at hl
  |cons w ws =>
   obtain ⟨u,Pq,rfl,h1,h2⟩:=J4 r
   cases vs with
   |nil=>simp at hlen
   |cons v vs =>
    obtain ⟨k',x,e,hk⟩:=h 0 v rfl
    cases e
    rcases wg hk with ⟨i,t,e1,_⟩|⟨y,t,e1,e2⟩
    ·cases e1
    ·cases e1
     subst e2
     exact .cons _ _ (ih (by simpa using hl) h2 (by simpa using hlen) λj v hj=>h (j+1) v (by simpa using hj))
def K_ (hc:X.calm=true):bq X (.builtin "sorted") K8:=by
 intro pins s σ H xs us Q I r h
 obtain ⟨a,ks,ws,rfl,ha,hl,fX,q⟩:=h
 obtain ⟨u,rfl,ru⟩:=r.one
 obtain rfl:u=Value.ref a:=ru
 obtain ⟨hz,lo,kv,gY,hd⟩:=gE I.hok (.inl ha)
 obtain ⟨ep,dn⟩:=hd.dictAt
 have lk:kv.length=ks.length:=by rw [<-gY.length];simp [kz,hl]
 refine K6 (knd:=aX X.prog X.w) (I.ok.hd hc) lo dn (by omega) (λvs hlen hv=>K9 hl gY hlen hv) λh1 h2 tk out e k1 k2 he hs=>?_
 have I1:Inv X pins σ H { s with heap:=h1,toks:=tk }:=I.kept (t':=tk) k1
 have hn:H h1.objs.size=none:=I1.hok.fresh (z0 _)
 have lv:((aL ks).map V.str).length<=sizeLine:=by
  rw [yX,sizeLine_eq]
  unfold aL
  rw [List.length_mergeSort]
  omega
 exact ⟨.ref h1.objs.size,_,I1.laid (t':=tk) k2 (z0 _) (show aU X.prog X.w _ h2 _ (.lst ((aL ks).map V.str)) from ⟨lv,out,e,sG hs,he⟩),rfl,q _ hn⟩
def mW:Al:=λxs st=>match xs with
 |[.ref n]=>y3 st n λks _=>if ks.length<64 then .ok (.ref st.length) (st++[.lst ((aL ks).map PV.str)]) else .stuck
 |_=>.stuck
def Bk:bootBuiltins "sorted" = some (.builtin "sorted"):=by decide +kernel
end
section
variable {prog:Program} {w:World} {A:Around} {E:Aa} {s:Shared}
def StrsAre.rev {vs:Af}{ss:Ad}(h:StrsAre vs ss):StrsAre vs.reverse ss.reverse:=by
 have q:=strsAre_map vs.reverse λv hv=>h.all v (List.mem_reverse.mp hv)
 rw [List.map_reverse,h.strs] at q
 exact q
def La {a:Addr} {vs:Af} {ss:Ad} {n:Nat} {P:Fin->Shared->Prop} (ho:s.heap.get? a=some (seqObj "list" vs.toArray n)) (hS:StrsAre vs ss) (fX:vs.length<64)
  (h:∀out:Array Value,StrsAre out.toList (aL ss).reverse->P (.done (.ret .none)) { s with heap:=sortedHeap s.heap a vs out }):wpAny (model prog w) A (Builtin.«list.sort» ⟨[.ref a],[(Str.ofString "reverse", .bool true)]⟩) P E s:=by
 have lt:=yb ho
 obtain ⟨e1,o1⟩:∃e1,(s.heap.update a (Obj.mapSeq λ_=>#[])).get? a=some (seqObj "list" #[] e1):=⟨_,get?_update_seq ho (λ_=>#[])⟩
 have o6:(((s.heap.update a (Obj.mapSeq λ_=>#[])).push (seqObj "tuple" vs.toArray 0)).push (seqObj "list" #[] 0)).get? a=some (seqObj "list" #[] e1):=z8 _ (z8 _ o1)
 have hz:(pairsOf vs).size=vs.length:=pairsOf_size _
 have done:∀aR:SortSt,(arrOf aR).Perm (pairsOf vs)->SortedToK strKind (arrOf aR) (pairsOf vs).size->P (.done (.ret .none)) { s with heap:=sortedHeap s.heap a vs ((arrOf aR).map (·.2)).reverse }:=λaR q1 q2=>by
  obtain ⟨K7,r1,r2,r3⟩:=sorted_out_str hS q1 q2
  rw [Bh r2 r3] at r1
  exact h _ (by rw [Array.toList_reverse];exact StrsAre.rev r1)
 have begin_:(vs.toArray.zip vs.toArray).reverse.Perm (pairsOf vs):=Array.perm_iff_toList_perm.mpr (by rw [Array.toList_reverse];exact List.reverse_perm _)
 have small:∀xs:Array Keyed,xs.Perm (pairsOf vs)->((xs.map (·.2)).reverse).size<=sizeLine+1:=λxs q=>by
  rw [Array.size_reverse,Array.size_map,q.size_eq,hz,sizeLine_eq];omega
 rw [list_sort_rev]
 refine zy (listItems_at ho rfl (zy (listUpdate_at ho rfl (zy (seqEpoch_at o1 rfl (zy (wpAny_newTuple (zy (wpAny_newList (fI ?_))))))))))
 show wpAny (model prog w) A _ P E { s with heap:=((s.heap.update a (Obj.mapSeq λ_=>#[])).push (seqObj "tuple" vs.toArray 0)).push (seqObj "list" #[] 0) }
 dsimp only
 simp only [jH]
 refine zy (wpAny_rule ?_)
 by_cases h2:vs.toArray.size<2
 ·rw [zj h2,zj h2]
  refine zy (zW ?_)
  rw [StateT.run_pure]
  refine zy (zW ?_)
  dsimp only
  refine zy (seqEpoch_at o6 rfl (zy (listUpdate_at o6 rfl ?_ (hsz2:=small _ begin_))))
  simp only [bne_self_eq_false,Bool.false_eq_true,if_false]
  refine zW (done (SortSt.mk' general' (vs.toArray.zip vs.toArray).reverse #[] 7 none) begin_ λi j cA hj=>?_)
  have hv:vs.toArray.size=vs.length:=by simp
  have Lb:i=j:=by omega
  subst Lb
  exact KeyOrd.kle_refl _
 ·rw [zx h2,zx h2]
  match vs,hS,fX,ho,h2,o6,hz,done,begin_,small with
  |[],_,_,_,h2,_,_,_,_,_=>exact absurd (by simp) h2
  |[_],_,_,_,h2,_,_,_,_,_=>exact absurd (by simp) h2
  |v1::v2::r,hS,fX,ho,h2,o6,hz,done,begin_,small =>
   rw [keyKind_strs hS]
   refine zy (zW (zy (yM (wpS_sortRunsK (κ:=strKind) strKind_oneLt (a₀:=pairsOf (v1::v2::r)) (st:=SortSt.mk' oneType' ((v1::v2::r).toArray.zip (v1::v2::r).toArray).reverse #[] 7 none)
    (Q:=λ_ aR=>(arrOf aR).Perm (pairsOf (v1::v2::r))/\failedOf aR=none/\SortedToK strKind (arrOf aR) (pairsOf (v1::v2::r)).size) hS.keysOf ⟨begin_,rfl,rfl,rfl⟩ (by rw [hz];simp) (by rw [hz];exact fX) λaR b1 b2 b3=>⟨b1,b2,b3⟩) ?_ λ_ _ z=>z)))
   rintro ⟨⟨⟩,aR⟩ s' ⟨rfl,hp,hf,hs⟩
   dsimp only
   refine zy (seqEpoch_at o6 rfl (zy (listUpdate_at o6 rfl ?_ (hsz2:=small _ hp))))
   rw [hf]
   simp only [bne_self_eq_false,Bool.false_eq_true,if_false]
   exact zW (done aR hp hs)
end
section
variable {X:Cx}
theorem sH {K:Frag}{mg:Ab}{ρ:Ae}{H:Hp}:∀zs:Ad,Rs K mg ρ H (zs.map PV.str) (zs.map V.str)
 |[]=>rfl
 |z::zs=>⟨_,_,rfl,rfl,sH zs⟩
def Lc (hc:X.calm=true):bX X (.builtin "sorted") mW:=⟨_,K_ hc,fun ρ H st xs vs Q E s r h=>by
 unfold mW at h
 match xs,h with
 |[.ref n],h =>
  obtain ⟨ks,xs,hn,h⟩:=oK h
  obtain ⟨v,rfl,rv⟩:=r.one
  obtain ⟨a,ws,rfl,ha,k1,k2,k3⟩:=R.refD s rv hn
  obtain ⟨c,h⟩:=Out.ifp h
  refine ⟨a,ks,ws,rfl,k1,k3,c,λl hl=>?_⟩
  have ep:Ext ρ H (ρ++[l]) (upd H l (.lst ((aL ks).map V.str))):=Ext.push hl
  exact h _ _ ep (s.push hl ⟨_,yD,sH _⟩) _ ⟨l,rfl,by rw [<-s.len];simp⟩⟩
end
section
variable {X:Cx}
def e8 (ks:Ad) (i j:Nat):Bool:=decide ((ks[j]?.getD "").cps.toList<(ks[i]?.getD "").cps.toList)
def Ld:List V->Hp->VK->Prop:=λxs H Q=>∃a ks ws z,xs=[.ref a]/\H a=some (.dK (kz ks ws))/\ks.length=ws.length/\ks[argBest (e8 ks) (ks.length-1)]?=some z/\Q (.str z) H
def sJ {ks:Ad} {ws:List V} {kv:List (Key×Value)} (hl:ks.length=ws.length) (r:KV (kz ks ws) kv):∀{i:Nat} {v:Value},(∃k x,kv[i]?=some (k,x)/\cL k v=true)->∃t,ks[i]?=some (ks[i]?.getD "")/\v=.str (ks[i]?.getD "") t:=by
 intro i v ⟨k,x,e,hk⟩
 have sL:=r.keys
 have e2:=congrArg (λl:List Key=>l[i]?) sL
 simp only [y7,e,Option.map_some] at e2
 have hz:(kz ks ws).map (·.1)=ks.map Sum.inr:=by
  unfold kz
  rw [List.map_fst_zip (by simp;omega)]
 have e3:((kz ks ws).map (·.1))[i]?=some k:=by rw [y7];exact e2
 rw [hz,y7] at e3
 cases hki:ks[i]? with
 |none=>rw [hki] at e3;cases e3
 |some y =>
  rw [hki] at e3
  cases e3
  rcases wg hk with ⟨_,_,e1,_⟩|⟨y',t,e1,e2⟩
  ·cases e1
  ·cases e1
   exact ⟨t,rfl,e2⟩
def Le (hc:X.calm=true):bq X (.builtin "max") Ld:=by
 intro pins s σ H xs us Q I r h
 obtain ⟨a,ks,ws,z,rfl,ha,hl,hz,q⟩:=h
 obtain ⟨u,rfl,ru⟩:=r.one
 obtain rfl:u=Value.ref a:=ru
 obtain ⟨hsz,lo,kv,gY,hd⟩:=gE I.hok (.inl ha)
 obtain ⟨ep,dn⟩:=hd.dictAt
 have lk:kv.length=ks.length:=by rw [<-gY.length];simp [kz,hl]
 have pos:0<kv.length:=by
  rw [lk]
  rcases Nat.eq_zero_or_pos ks.length with e|e
  ·rw [List.length_eq_zero_iff.mp e] at hz;simp at hz
  ·exact e
 have bg:a<s.heap.objs.size:=dn.lt_size
 refine call_max_walk (wpAny_pyIter_dict lo dn ?_)
 refine ⟨s.heap.objs.size,[s.heap.objs.size,a],[s.heap.objs.size],kv.length,_,_,e8 ks,rfl,Walks.dictKeys (knd:=aX X.prog X.w) (A:=X.A.in1) (I.ok.hd hc) s.heap.objs.size a (yB bg) kv ep,⟨⟨_,yV _ rfl,rfl,rfl⟩,dn.push _⟩,λb hb=>?_,pos,λi j vi vj s' Q' E' hi hj hq=>?_,λv h' tk hP hk=>?_⟩
 ·show b<(s.heap.push _).objs.size
  rw [Heap.size_push]
  rcases yn.mp hb with rfl|hb
  ·exact wV _
  ·rw [hU.mp hb];exact Nat.lt_succ_of_lt bg
 ·obtain ⟨t,e1,rfl⟩:=sJ hl gY hi
  obtain ⟨t',e2,rfl⟩:=sJ hl gY hj
  exact richCompare_gives (op:=.Gt) (typeIs_str s' _ t) (typeIs_str s' _ t') F.slot_str_gt F.entry_str_gt (F.args_str_gt_2 _ _) (gives_str_gt _ _ t t') (by simp [Made.takes]) hq
 ·obtain ⟨t,e1,rfl⟩:=sJ hl gY hP
  rw [lk] at e1
  rw [hz] at e1
  have I1:Inv X pins σ H { s with heap:=h',toks:=tk }:=I.kept (t':=tk) λb o e=>hk b o (λhm=>absurd (yb e) (by rw [hU.mp hm];exact Nat.lt_irrefl _)) (z8 _ e)
  refine ⟨.str z,H,I1,?_,q⟩
  rw [lk,hz]
  exact ⟨t,rfl⟩
def mX:Al:=λxs st=>match xs with
 | [.ref n]=>y3 st n λks _=>match ks[argBest (e8 ks) (ks.length-1)]? with
  |some z=>.ok (.str z) st
  |none=>.stuck
 |_=>.stuck
def Lf (hc:X.calm=true):bX X (.builtin "max") mX:=⟨_,Le hc,fun ρ H st xs vs Q E s r h=>by
 unfold mX at h
 match xs,h with
 |[.ref n],h =>
  obtain ⟨ks,xs,hn,h⟩:=oK h
  obtain ⟨v,rfl,rv⟩:=r.one
  obtain ⟨a,ws,rfl,ha,k1,k2,k3⟩:=R.refD s rv hn
  cases hz:ks[argBest (e8 ks) (ks.length-1)]? with
  |none=>simp only [hz] at h;exact h.elim
  |some z =>
   simp only [hz] at h
   exact ⟨a,ks,ws,z,rfl,k1,k3,hz,Out.now (x:=PV.str z) h s _ rfl⟩⟩
def pj:Am
 |.str a,.str b,st=>.ok (.bl (!decide (b.cps.toList<a.cps.toList))) st
 |_,_,_=>.stuck
def Lg:R2:=λv w H Q=>∃a b,v=.str a/\w=.str b/\Q (.bl (!decide (b.cps.toList<a.cps.toList))) H
def Lh:bb X (compareOp .LtE) Lg:=by
 intro pins s σ H x y v u Q I rx ry h
 obtain ⟨a,b,rfl,rfl,q⟩:=h
 obtain ⟨t,rfl⟩:=rx
 obtain ⟨t',rfl⟩:=ry
 exact P.le_str ⟨.bl _,H,I,rfl,q⟩
def zpP:bV X .LtE pj:=⟨_,Lh,fun ρ H st x y v w Q E s rx ry h=>by
 cases x with
 |str a =>
  cases y with
  |str b =>
   cases rx
   cases ry
   exact ⟨a,b,rfl,rfl,h.now s _ rfl⟩
  |_=>exact h.elim
 |_=>exact h.elim⟩
def Bl:bX X (.type "int") lA:=⟨_,Hi,fun ρ H st xs vs Q E s r h=>by
 unfold lA at h
 match xs,h with
 |[.str z],h =>
  obtain ⟨v,rfl,rv⟩:=r.one
  cases rv
  cases hn:PySem.intText? z with
  |none=>simp only [hn] at h;exact h.elim
  |some n =>
   simp only [hn] at h
   obtain ⟨c,h⟩:=Out.ifp h
   exact ⟨z,n,rfl,hn,c,Out.now (x:=PV.int n) h s _ rfl⟩⟩
end
end Mi
namespace Mi
open PySem L2 PySem.W PySem.Spec
def jx (C:Str) (m:Al) (c:Str):Option (Al):=if c=C then some m else none
def pk {P:Program}{w:World}{K:Frag}{mg:Ab}{base:Heap}{C n:Str}{k:Nat}{m m':Al}{c:Str}(ok:bP P w K mg base C n k m) (h:jx C m c=some m'):bP P w K mg base c n k m':=by
 unfold jx at h
 by_cases e:c=C
 ·rw [zj e] at h;cases h;rw [e];exact ok
 ·rw [zx e] at h;cases h
def jm {C:Str}{m:Al}:jx C m C=some m:=zj rfl
end Mi
namespace PySem
def Heap.IsRevT (h:Heap) (a l:Addr) (i:Int):Prop:=∃o,h.get? a=some o/\o.cls=.type "reversed" /\ o.data=.fields #[.ref l,rawInt i]
section
open PyProof.Rows
def Heap.IsRevT.at {h h':Heap}{a l:Addr}{i:Int}(x:h.IsRevT a l i) (e:∀o,h.get? a=some o->h'.get? a=some o):h'.IsRevT a l i:=let ⟨o,ho,r⟩:=x;⟨o,e _ ho,r⟩
end
end PySem
namespace Mi
open PySem L2 PySem.W PySem.Spec
section
variable {X:Cx} {Er:XK} {pos:Pos}
def X0F (K:Frag) (mg:Ab) (c:Str):Prop:=∃C,mg c=some (.ref C)/\excIn K C cQ "ValueError.__new__" = true/\keepIn K (.ref C)=true
def Li {cn:Str} {np aS:Pos} (C:X0F X.K X.mg cn) (ht:wj X Er) (hc:X.calm=true) (hg:Gl X cn:=by rfl) (bC:(cn==("__debug__" : Str))=false:=by decide):MS X Er (.Raise (some (.Call (.Name cn np) [] [] aS)) none pos) (bx cn):=by
 obtain ⟨C,hm,q,kp⟩:=C
 exact PS.weak (HJ q kp hg hm ht.one hc bC) λD σ H ⟨env,st,ρ,re,rs,h⟩=>h ρ H _ _ (Ext.refl ..) rs ⟨C,rfl,hm,.inl ⟨rfl,rfl⟩⟩
def zpQ {K:Frag} {mg:Ab} {h:Heap} {c:Str} {C:Addr} (X:K.In h) (G:h.Ns mainGlobals mg) (aC:nsIn K mainGlobals c=some (some (.ref C))) (hB:excIn K C cQ "ValueError.__new__" = true) (kp:keepIn K (.ref C)=true):X0F K mg c:=⟨C,mg_of X G aC,hB,kp⟩
def X0F.tr {K:Frag}{mg:Ab}{c:Str}(h:X0F K mg c):∃C,mg c=some (.ref C)/\ExOf K C:=by
 obtain ⟨C,hm,q,kp⟩:=h
 refine ⟨C,hm,?_⟩
 unfold excIn at q
 split at q
 ·rename_i dd cd sl ho
  split at q
  ·rename_i C' bm k0 k1 k2 k3 n k5 da hs
   simp only [yC,beq_iff_eq,Bool.not_eq_true'] at q
   obtain ⟨⟨⟨⟨⟨rfl,rfl⟩,gH⟩,oF⟩,hok⟩,kY⟩:=q
   obtain ⟨nm,bs,mro,ns,qn,hd,sn,sub,ab,col,del⟩:=cd
   dsimp only at da gH hok kY
   subst da gH
   have mw:sl=#[k0,k1,k2,k3,some (.builtin "ValueError.__new__"),k5]:=Array.toList_inj.mp hs
   subst mw
   exact ⟨⟨nm,qn,ns,bs,bm,hd,sn,sub,ab,col,dd,k0,k1,k2,k3,k5,ho,oF,hok⟩,kp⟩
  ·cases q
 ·cases q
def iR (cn:Str) (e:za) (st:aj):bx cn e st=.err cn [] [] st:=rfl
end
end Mi
namespace L2
open PySem PySem.Spec PyProof.Rows PySem.W
def Lj (K:Frag) (B:Addr) (i j:Nat) (tv:TX) (tsu:TS):TS:=λD σ H=>tv σ H (λv H1=>D.nx (σ.set i (some v)) H1)
 (λc d H1=>∃C,c=.ref C/\ExSub K C B/\∀a,H1 a=none->tsu { nx:=fun σ' H'=>D.nx (σ'.set j none) H',rt:=D.rt } (σ.set j (some (.ref a))) (upd H1 a (bS C d a)))
def Lk {X:Cx}{B:Addr}{i j:Nat}{x n cls:Str}{value:Expr}{tv:TX}{tsu:TS}{b0:Stmt}{bh:List Stmt}{xp ap cp hp pos:Pos}(hN:X.N.Nodup) (hi:X.N[i]?=some x) (hx:Loc X.env.scope x) (hj:X.N[j]?=some n) (hn:X.env.scope.names.lookup n=some .local)
  (hv:PX X value tv) (hg:Gl X cls) (hm:X.mg cls=some (.ref B)) (hB:ExOf X.K B) (iQ:∀a,b6 (X.caught a) (b0::bh) tsu) (cF:X.stack=X.env::X.outer) (cz:X.env.frame=some X.env.locals)
  (e7:swapsWith value (some (.Name x xp)) ap.line X.env=pure false:=by rfl) (hf:X.fn x=true\/X.env.scope.names.lookup x=some .local:=by first|exact .inl rfl|exact .inr rfl|assumption) (bC:(cls==("__debug__" : Str))=false:=by decide) :
  PS X (.Try [.Assign [.Name x xp] value ap] [.ExceptHandler (some (.Name cls cp)) (some n) (b0::bh) hp] [] [] pos) (Lj X.K B i j tv tsu):=by
 intro pins s σ H D I h
 rw [arm_exec_Try]
 refine zy (wpAny_standAt (wpAny_tryStmt_except (wpAny_execs_cons (wpAny_Assign_Name (yM (hv pins s σ H _ _ I h) (λv s1 ⟨y,H1,I1,r1,q1⟩=>kO I1 hN hi hx r1 (λs2 I2=>?_) hf) (λu s1 ⟨a,C',d,H1,eu,I1,su,C,ec,hC,q⟩=>?_)) e7))))
 ·exact wpAny_execs_nil (wpAny_execs_nil ⟨_,H1,I2,q1⟩)
 subst eu
 cases ec
 refine qX I1 I.ok.frames cF cz su λs2 T I2 x2 ne my oa oT=>mq I2 x2 ne my oa oT λs3 I3 x3 iE=>?_
 refine wpAny_handleBy_cons (codeAny_handlers_test ?_) (by intro q;cases q)
 refine gp (X:=X.caught a) (Inv.caught I3 a) hg hm ?_ bC
 obtain ⟨nm,q',N,bs,bm,bM,sn,sub,ab,col,dd,k0,k1,k2,k3,k5,hl,hs⟩:=hC.mem
 obtain ⟨⟨KO,qB,NB,KP,iD,KQ,KR,subB,KS,Bb,KU,l0,l1,l2,l3,l5,sv,sx,_⟩,_⟩:=hB
 have lh:=I3.kIn _ _ hl
 have sy:=I3.kIn _ _ sv
 have br:iD.contains (.type "BaseException")=true:=(tail_of_in I3.kIn sx).hasType (by decide)
 obtain ⟨oe,vs,he,dG,_⟩:=id x3
 refine A_ (h:=s3.heap) (g:=s3.gens) (d:=s3.drawn) (t:=s3.toks) (os:=s3.os) lh sy he dG br hs ?_
 refine codeAny_handlers_suite_as (mq I3 x3 ne iE oa oT λs4 I4 x4 KW=>?_)
 have I5:=Inv.catch I4 oa x4
 refine kO I5 hN hj (.inl hn) (v:=.ref a) rfl (λs5 I6=>?_) (.inr hn)
 refine yM (iQ a pins s5 _ _ _ (Inv.caught I6 a) (q a oa.1)) (λf s6 z=>?_) λ_ _ z=>z.elim
 cases f with
 |next =>
  obtain ⟨σ',H',I7,q7⟩:=z
  exact oE (Inv.uncaught I.ok I7) hN hj hn λs7 I8=>⟨_,H',I8,q7⟩
 |brk=>obtain ⟨_,_,_,z⟩:=z;exact z.elim
 |cont=>obtain ⟨_,_,_,z⟩:=z;exact z.elim
 |ret u =>
  obtain ⟨v,σ',H',I7,r7,q7⟩:=z
  exact oE (Inv.uncaught I.ok I7) hN hj hn λs7 I8=>⟨v,_,H',I8,r7,q7⟩
end L2
namespace Mi
open PySem L2 PySem.W PySem.Spec
section
variable {X:Cx} {Er:XK} {pos:Pos}
def iS (i j:Nat) (sub:Str->Bool) (fv:Ai) (bh:Aj):Aj:=λenv st=>match fv env st with
 |.ok x au=>.ok (.nx (env.set i (some x))) au
 |.err c ks xs au=>if sub c=true then (bQ (bh (env.set j (some (.exo c ks xs))) au)).bind (mL j) else .stuck
 |.stuck=>.stuck
def Ll (i j:Nat) {x n cn:Str}{sub:Str->Bool}{value:Expr}{fv:Ai}{gs:Aj}{b0:Stmt}{bh:List Stmt}{xp ap cp hp:Pos}(hB:∃B,X.mg cn=some (.ref B)/\ExOf X.K B/\∀c,sub c=true->∃C,X.mg c=some (.ref C)/\ExSub X.K C B) (hv:MX X value fv) (iQ:∀a,df (X.caught a) E0 (b0::bh) gs) (hN:X.N.Nodup)
  (cF:X.stack=X.env::X.outer:=by rfl) (cz:X.env.frame=some X.env.locals:=by rfl) (hi:X.N[i]?=some x:=by rfl) (hx:Loc X.env.scope x:=by first|exact Or.inl rfl|exact Or.inr rfl) (hj:X.N[j]?=some n:=by rfl) (hn:X.env.scope.names.lookup n=some .local:=by rfl) (hg:Gl X cn:=by rfl)
  (e7:swapsWith value (some (.Name x xp)) ap.line X.env=pure false:=by rfl) (hf:X.fn x=true\/X.env.scope.names.lookup x=some .local:=by first|exact .inl rfl|exact .inr rfl|assumption) (bC:(cn==("__debug__" : Str))=false:=by decide) :
  MS X Er (.Try [.Assign [.Name x xp] value ap] [.ExceptHandler (some (.Name cn cp)) (some n) (b0::bh) hp] [] [] pos) (iS i j sub fv gs):=by
 obtain ⟨B,sA,hB,cv⟩:=hB
 exact PS.weak (Lk (tsu:=sM X.K X.mg E0 gs) hN hi hx hj hn hv hg sA hB iQ cF cz e7 hf bC) λD σ H ⟨env,st,ρ,re,rs,h⟩=>by
  refine ⟨env,st,ρ,re,rs,?_⟩
  unfold iS at h
  cases hr:fv env st with
  |ok y au =>
   rw [hr] at h
   exact λaa H1 e1 s1 v rv=>h aa H1 e1 s1 _ ((re.ext e1).set i rv)
  |stuck=>rw [hr] at h;exact h.elim
  |err c ks xs au =>
   simp only [hr] at h
   obtain ⟨sC,h2⟩:=Out.ifp h
   obtain ⟨C0,hm,sD⟩:=cv c sC
   intro aa H1 Cv d e1 s1 xr
   obtain ⟨C',rfl,hm',hd⟩:=xr
   rw [hm] at hm'
   cases hm'
   refine ⟨C0,rfl,sD,λq hq=>?_⟩
   have go:∀d,(upd H1 q (bS C0 d q))=(upd H1 q (bS C0 d q))->R X.K X.mg aa (upd H1 q (bS C0 d q)) (.exo c ks xs) (.ref q)->sM X.K X.mg E0 gs { nx:=fun σ' H'=>D.nx (σ'.set j none) H',rt:=D.rt } (σ.set j (some (.ref q))) (upd H1 q (bS C0 d q)):=λd _ r=>by
    have eq:Ext aa H1 aa (upd H1 q (bS C0 d q)):=Ext.new hq
    refine ⟨env.set j (some (.exo c ks xs)),au,aa,((re.ext e1).ext eq).set j r,s1.new hq,iK (Out.ext h2 (e1.trans eq)) λai H2 fl aK e2 s2 h2=>?_⟩
    cases fl with
    |nx e=>exact λaz r2=>Out.fl (D:=D) (fl:=.nx (e.set j none)) (E:=Er) h2 s2 _ (r2.unset j)
    |rt y=>exact λv2 r2=>Out.fl (D:=D) (fl:=.rt y) (E:=Er) h2 s2 _ r2
    |_=>exact h2.elim
   rcases hd with ⟨mU,rfl⟩|⟨dd,vs,rfl,fW,hR,hl⟩
   ·exact go none rfl ⟨q,C0,rfl,hm,.inl ⟨mU,yD⟩⟩
   ·have eq:Ext aa H1 aa (upd H1 q (bS C0 (some dd) q)):=Ext.new hq
    exact go (some dd) rfl ⟨q,C0,rfl,hm,.inr ⟨dd,vs,yD,eq.imm _ _ fW rfl,Rs.ext eq xs hR,hl⟩⟩
end
section
variable {X:Cx} {K:Frag} {mg:Ab} {a:Expr}
inductive pv (K:Frag) (H:Hp):V->Value->Prop where
 |of {v:V} {t:Value} (h:cj K H v t):pv K H v t
 |tup {a:Addr} {vs:List V} (h:bK K H a vs):pv K H (.ref a) (.type "tuple")
def eR:bq X (.builtin "isinstance") (λxs H Q=>∃v w t c b,xs=[v,w]/\pv X.K H v t/\RelV w c/\(∀c',RelV w c'->c'=c)/\kitOne X.K t c=some b/\Q (.bl b) H):=by
 intro pins s σ H xs us Q I r h
 obtain ⟨v,w,t,c,b,rfl,ty,rw,un,e,q⟩:=h
 obtain ⟨u,w',rfl,ru,ck⟩:=qv r
 obtain rfl:=un w' ck
 have h:∀tk,EP X pins σ Q (.bool b) { s with toks:=tk }:=λtk=>⟨.bl b,H,I.tok _,rfl,q⟩
 cases ty with
 |of ty=>exact qz I ru ty e h
 |@tup a vs hq =>
  obtain rfl:u=Value.ref a:=ru
  obtain ⟨its,_,p,_⟩:=I.tuple hq
  obtain ⟨o,h1,h2,_⟩:=p
  exact PySem.W.kia_one PySem.W.kitx_tuple I.kIn ⟨o,h1,h2⟩ e (λz=>nomatch z) h
def pz:Option SO->Option String
 |some (.dic _ _)=>some "dict"
 |some (.lst _)=>some "list"
 |_=>none
def tyP (st:aj):PV->Option String
 |.non=>some "NoneType"
 |.bl _=>some "bool"
 |.int _=>some "int"
 |.str _=>some "str"
 |.tup _=>some "tuple"
 |.ref n=>pz st[n]?
 |_=>none
def Lm {ρ:Ae}{H:Hp}{st:aj}{x:PV}{v:V}{T:String}(s:aZ K mg ρ H st) (r:R K mg ρ H x v) (h:tyP st x=some T):pv K H v (.type T):=by
 cases x with
 |non=>cases h;cases r;exact .of .non
 |bl b=>cases h;cases r;exact .of (.bl b)
 |int i=>cases h;cases r;exact .of (.int i)
 |str z=>cases h;cases r;exact .of (.str z)
 |tup xs=>cases h;obtain ⟨a,vs,rfl,h1,_⟩:=r;exact .tup h1
 |ref n =>
  obtain ⟨a,rfl,ha⟩:=r
  have h:pz st[n]?=some T:=h
  cases e:st[n]? with
  |none=>rw [e] at h;cases h
  |some so =>
   rw [e] at h
   cases so with
   |lst xs=>cases h;obtain ⟨vs,h1,_⟩:=s.addr e ha;exact .of (.lst h1)
   |dic ks xs=>cases h;obtain ⟨vs,h1,_⟩:=s.addr e ha;exact .of (.dK h1)
   |_=>cases h
 |_=>cases h
def yv:Al
 | [x,.ty n],st=>match tyP st x with
  |some T=>cy (bG T n) st
  |none=>.stuck
 |_,_=>.stuck
def j8:bX X (.builtin "isinstance") yv:=⟨_,eR,fun ρ H st xs vs Q E s r h=>by
 unfold yv at h
 split at h
 ·rename_i x n
  obtain ⟨v,w,rfl,rx,ry⟩:=Rs.two r
  cases hc:tyP st x with
  |none=>rw [hc] at h;exact h.elim
  |some T =>
   rw [hc] at h
   cases ry
   obtain ⟨b,hb,h⟩:=mF h
   exact ⟨v,_,_,_,b,rfl,Lm s rx hc,rfl,λc' h=>h,xF X.K hb,h.now s _ rfl⟩
 ·exact h.elim⟩
end
end Mi
namespace Mi
open PySem L2 PySem.W PySem.Spec PyProof.Rows
theorem kG:∀{ss:Ad}{its:Af},Vals (ss.map V.str) its->StrsAre its ss
 |[],_,.nil=>.nil
 |_::_,_,.cons ⟨t,e⟩ h=>by subst e;exact .cons _ t (kG h)
end Mi
namespace L2
open PySem PySem.Spec PyProof.Rows PySem.W
section
variable {P:Program} {w:World} {K:PySem.W.Frag} {mg:Ab} {base:Heap}
structure sN (P:Program) (w:World) (K:PySem.W.Frag) (mg:Ab) (base:Heap) (k:Nat) (f:Addr) (fd:FuncData) (ps:Ad) (sp:Sp):Prop where
 len:∀vs H Q,sp vs H Q E0->vs.length=ps.length
 run:∀(A:Around) (a:Addr) (outer:List Env) (s:Shared) (H:Hp) (args:Args) (us:Af) (vs:List V) (Q:VK),aY k A->dH P w K mg base A outer s H->BindsTo s fd args (ps.zip us)->Vals vs us->sp vs H Q E0 ->
  codeAny (model P w) (A.mark (some (.ref a))) (.call (.ref f) args) (CR n_ outer P w H s Q E0) s
def cW.okU {x qual:Str}{sm:Stmt}{f:Addr}{fd:FuncData}{N ps:Ad}{k:Nat}{sp:Sp}(F:cW K x qual sm f fd) (S:aH N ps (zI sm)) (len:∀vs H Q,sp vs H Q E0->vs.length=ps.length)
  (dw:∀(aQ:Value) (A:Around) (a:Addr) (outer:List Env) (s:Shared) (H:Hp) (vs:List V) (Q:VK),aY k (A.deeper (envOfC qual (zI sm) s.heap.objs.size f aQ))->sp vs H Q E0 ->
   ∃t,b6 ((cG n_ P w K mg base N qual (zI sm) f aQ A outer s H E0).caught a) (jd sm) t/\t { nx:=λ_ H'=>Q .non H',rt:=Q } (start N vs) H):sN P w K mg base (k+1) f fd ps sp:=by
 obtain ⟨oc,od,kV,doc,pm,an,aQ,ct,dI,rfl,lk,dU⟩:=F.ex
 refine ⟨len,λA a outer s H args us vs Q hr e0 hb r eL=>?_⟩
 have hl:=len _ _ _ eL
 have KX:K.In s.heap:=e0.mod.kin.keeps λb o e=>(e0.bs b o e).1
 have lim:s.heap.NoLimit:=e0.mod.nolimit.keeps λb o e=>(e0.bs b o e).1
 have sc:∀y∈ps.zip us,(zI sm).names.lookup y.1=some .local\/((zI sm).names.lookup y.1=some .cell/\((cellsFrom (s.heap.objs.size+1) (zI sm).names []).lookup y.1).isSome=true):=λ⟨n,v⟩ hy =>
  (S.par n (List.of_mem_zip hy).1).imp id λq=>⟨q,PySem.W.cellsFrom_some _ _ _ (.inl q)⟩
 refine codeAny_call_function (A:=A.mark (some (.ref a))) hr.depth (KX _ _ lk) rfl S.co S.gen rfl (PySem.W.codeRec_of KX dU) (hb _ _ _ _ ?_)
 refine wpAny_newFunctionEnv_cells S.kind sc λenv he s1 x=>?_
 subst he
 refine ⟨lim.keeps x.toInCall.keep,codeAny_func ?_⟩
 obtain ⟨t,ht,hq⟩:=dw aQ A a outer s H vs Q (hr.deeper _) eL
 have I:=Inv.caught (vq (CX:=n_) (E:=E0) S hr.hd e0 hl r x) a
 refine yM (ht [] s1 (start N vs) H _ I hq) (λfl s' hs=>?_) λe s' hs=>hs.elim
 cases fl with
 |ret u =>
  obtain ⟨v,_,H',J,rv,q⟩:=hs
  exact ⟨v,H',J.os,J.bare,J.base,J.hok,rv,q⟩
 |next =>
  obtain ⟨_,H',J,q⟩:=hs
  exact ⟨V.non,H',J.os,J.bare,J.base,J.hok,rfl,q⟩
 |brk=>obtain ⟨_,_,_,q⟩:=hs;exact q.elim
 |cont=>obtain ⟨_,_,_,q⟩:=hs;exact q.elim
end
section
variable {X:Cx} {a f:Addr} {k:Nat} {fd:FuncData} {ps:Ad} {sp:Sp} {x:Str} {p pos:Pos} {e:Expr} {es:List Expr} {t:TA}
def Ln (F:sN X.prog X.w X.K X.mg X.base k f fd ps sp) (hr:aY k X.A) (hg:Gl X x) (hm:X.mg x=some (.ref f)) (hk:PySem.W.keepIn X.K (.ref f)=true) (hb:Binds X.K fd ps [])
  (ha:PA (X.caught a) (e::es) t) (bC:(x==("__debug__" : Str))=false:=by decide) (he:starEach (e::es) X.env=(false,eval e X.env)::starEach es X.env:=by rfl) (bj:(backTo pos (starEach es X.env)).any (·.1)=false:=by rfl) :
  PE (X.caught a) (.Call (.Name x p) (e::es) [] pos) (vh sp [] E0 t):=by
 intro pins s σ H Q I h
 refine wpAny_Call_Name_kw (gp (X:=X.caught a) I hg hm ?_ bC)
 refine PySem.W.callWith_K (h₀:=X.base) I.ok.mod.kin hk (aO (ha pos pins s σ H _ I h) λus s1 ⟨vs,H1,I1,r,q⟩=>⟨I1.kIn,?_⟩) he bj
 have q:sp vs H1 Q E0:=by have z:sp (vs++[]) H1 Q E0:=q;rwa [List.append_nil] at z
 have hl:us.length=ps.length:=by rw [<-r.length];exact F.len _ _ _ q
 have e0:=I1.env0
 have e1:dH X.prog X.w X.K X.mg X.base X.A X.stack s1 H1:=⟨e0.frames,e0.mod,e0.bs,e0.bsz,e0.funs,e0.frf,e0.hok,e0.bare⟩
 refine wpAny_call (codeAny_mono (F.run X.A a X.stack s1 H1 ⟨us,[]⟩ us vs Q hr e1 (by have z:=hb s1 us I1.kIn (by rw [List.append_nil];exact hl);rwa [List.append_nil] at z) r q) λr s' hq=>?_)
 cases r with
 |error e=>exact hq.elim
 |ok fl =>
  cases fl with
  |ret u=>exact I1.after hq
  |next=>exact hq.elim
  |brk=>exact hq.elim
  |cont=>exact hq.elim
end
end L2
namespace Mi
open PySem L2 PySem.W PySem.Spec PyProof.Rows
section
variable (P:Program) (w:World) (K:Frag) (mg:Ab) (base:Heap)
def sO (x:Str) (k:Nat) (m:Al):Prop:=∃f fd ps,mg x=some (.ref f)/\keepIn K (.ref f)=true/\Binds K fd ps []/\sN P w K mg base k f fd ps (dZ K mg m)
end
section
variable {P:Program} {w:World} {K:Frag} {mg:Ab} {base:Heap}
theorem FnF.okU {x:Str}{sm:Stmt}{N ps:Ad}{k:Nat}{g:Aj}(h:FnF K mg x sm ps) (S:aH N ps (zI sm))
  (hb:∀(f:Addr) (aQ:Value) (A:Around) (a:Addr) (outer:List Env) (s:Shared) (H:Hp),df ((cG n_ P w K mg base N x (zI sm) f aQ A outer s H E0).caught a) E0 (jd sm) g) :
  sO P w K mg base x (k+1) (z6 ps.length N.length g):=by
 obtain ⟨f,fd,hm,F,b⟩:=h
 refine ⟨f,fd,ps,hm,F.kp,b,cW.okU F S (λvs H Q h=>?_) λaQ A a outer s H vs Q _ h=>⟨_,hb f aQ A a outer s H,?_⟩⟩
 ·obtain ⟨xs,st,ρ,r,_,h⟩:=h
  obtain ⟨hl,_⟩:=Out.ifp h
  rw [<-r.len];exact hl
 ·obtain ⟨xs,st,ρ,r,rs,h⟩:=h
  obtain ⟨hl,h⟩:=Out.ifp h
  refine ⟨_,st,ρ,xN r hl,rs,h.then λaa H1 fl au e1 s1 h1=>?_⟩
  cases fl with
  |rt v=>exact λu ru=>Out.now (x:=v) h1 s1 u ru
  |nx e=>exact fun σ' _=>Out.now (x:=PV.non) h1 s1 _ rfl
  |_=>exact h1.elim
end
section
variable {X:Cx} {a:Addr} {x:Str} {p pos:Pos} {e:Expr} {es:List Expr} {fs:Ah} {k:Nat} {m:Al}
def Lo (C:sO X.prog X.w X.K X.mg X.base x k m) (hr:aY k X.A) (ha:MA (X.caught a) E0 (e::es) fs) (hg:Gl X x:=by rfl) (bC:(x==("__debug__" : Str))=false:=by decide)
  (he:starEach (e::es) X.env=(false,eval e X.env)::starEach es X.env:=by rfl) (bj:(backTo pos (starEach es X.env)).any (·.1)=false:=by rfl):ME (X.caught a) E0 (.Call (.Name x p) (e::es) [] pos) (zo m fs):=by
 obtain ⟨f,fd,ps,hm,hk,hb,F⟩:=C
 exact PE.weak (Ln F hr hg hm hk hb ha bC he bj) fun σ H Q ⟨env,st,ρ,re,rs,h⟩=>⟨env,st,ρ,re,rs,h.then λaa H1 xs au e1 s1 k vs rv=>by
  show dZ X.K X.mg m (vs++[]) H1 Q E0
  rw [List.append_nil]
  exact ⟨xs,au,aa,rv,s1,k⟩⟩
end
section
variable {prog:Program} {w:World} {A:Around} {E:Aa} {s:Shared}
def Lp {a:Addr} {its:Af} {n:Nat} {ss:Ad} {Q:Aa} (ho:s.heap.get? a=some { cls:=.type "list", data:=.seq its.toArray n }) (hS:StrsAre its ss) (fX:its.length<64)
  (h:∀(h1 h2:Heap) (out:Af) (e:Nat),(∀b o,s.heap.get? b=some o->h1.get? b=some o)->(∀b o,h1.get? b=some o->h2.get? b=some o)->h2.get? h1.objs.size=some (seqObj "list" out.toArray e)->StrsAre out (aL ss).reverse->Q (.ref h1.objs.size) { s with heap:=h2 }) :
  wpAny (model prog w) A (call (.builtin "sorted") [.ref a] [(Str.ofString "reverse", .bool true)]) Q E s:=by
 refine call_function_entry_kw kind_sorted plain_sorted entry_sorted (args_sorted_rev _ _) ?_
 unfold Builtin.«sorted»
 refine zy (m:=checkCount "sorted" 1 1 _) (zW ?_)
 refine zy (wpAny_collect_seq a (.inl rfl) ho rfl rfl (λh' hk=>?_) (by rw [sizeLine_eq];simp;omega))
 rw [show its.toArray.toList=its from List.toList_toArray]
 refine zy (wpAny_newList ?_ (by rw [sizeLine_eq];omega))
 have fj:(h'.push (seqObj "list" its.toArray 0)).get? h'.objs.size=some (seqObj "list" its.toArray 0):=yV _ rfl
 refine zy (fI (wpAny_call_entry_kw (s:={ s with heap:=h'.push (seqObj "list" its.toArray 0) }) slot_list_sort ⟨_,fj,rfl⟩ entry_list_sort (La (s:={ s with heap:=h'.push (seqObj "list" its.toArray 0) }) fj hS fX λout q1=>⟨_,rfl,?_⟩) (args_list_sort_rev _ _)))
 obtain ⟨e,he⟩:=Bi fj out
 exact zW ⟨_,rfl,h h' _ out.toList e hk (λb o eb=>Bj (yB (yb eb)) (z8 _ eb)) he q1⟩
end
section
variable {X:Cx} {Er:XK} {o:Expr} {fo:Ai} {p pos kp cp:Pos} {j:Nat}
def Lq (to:TE):TE:=fun σ H Q=>to σ H λx H1=>∃a ks,x=.ref a/\H1 a=some (.lst (ks.map V.str))/\ks.length<64/\∀l,H1 l=none->Q (.ref l) (upd H1 l (.lst ((aL ks).reverse.map V.str)))
def Lr {to:TE} (hg:Gl X "sorted") (hm:X.mg "sorted" = none) (ho:PE X o to) (hs:starEach [o] X.env=(false,eval o X.env)::starEach [] X.env):PE X (.Call (.Name "sorted" p) [o] [⟨some "reverse", .Constant (.bool true) j cp,kp⟩] pos) (Lq to):=by
 intro pins s σ H Q I h
 have e1:backTo pos (starEach [o] X.env)=(false,eval o X.env)::backTo pos (starEach [] X.env):=by rw [hs];rfl
 refine wpAny_Call_ofName (lV I hg hm Bk (callWith_kw ?_ e1 (by rw [e1];rfl)))
 rw [e1]
 refine Calls.spliced_cons (aO (ho pins s σ H _ I h) λv s1 ⟨x,H1,I1,r1,a,ks,ex,ha,fX,q⟩=>Calls.spliced_nil (kws_cons ?_))
 subst ex
 obtain rfl:v=Value.ref a:=r1
 refine zW (kws_nil ?_)
 show wpAny (model X.prog X.w) X.A (call (.builtin "sorted") [.ref a] [(Str.ofString "reverse", .bool true)]) _ _ s1
 obtain ⟨_,its,n,hv,hl,hO⟩:=I1.lstM ha
 refine Lp hO (kG hv) (by rw [yX] at hl;omega) λh1 h2 out e k1 k2 he hs=>?_
 have I2:Inv X pins σ H1 { s1 with heap:=h1 }:=I1.kept (t':=s1.toks) k1
 have hn:H1 h1.objs.size=none:=I2.hok.fresh (z0 _)
 have lv:((aL ks).reverse.map V.str).length<=sizeLine:=by
  rw [yX,List.length_reverse,sizeLine_eq]
  unfold aL
  rw [List.length_mergeSort]
  omega
 exact ⟨.ref h1.objs.size,_,I2.laid (t':=s1.toks) k2 (z0 _) (show aU X.prog X.w _ h2 _ (.lst ((aL ks).reverse.map V.str)) from ⟨lv,out,e,sG hs,he⟩),rfl,q _ hn⟩
def sP:PV->Mo PV
 | .ref n,st=>ym st n λys=>match strsOf ys with
  |some ks=>if ks.length<64 then .ok (.ref st.length) (st++[.lst ((aL ks).reverse.map PV.str)]) else .stuck
  |none=>.stuck
 |_,_=>.stuck
def Lu (hm:X.mg "sorted" = none) (ho:ME X Er o fo) (hg:Gl X "sorted" := by rfl) (hs:starEach [o] X.env=(false,eval o X.env)::starEach [] X.env:=by rfl):ME X Er (.Call (.Name "sorted" p) [o] [⟨some "reverse", .Constant (.bool true) j cp,kp⟩] pos) (yJ sP fo) :=
 PE.weak (Lr hg hm ho hs) fun σ H Q ⟨env,st,ρ,re,rs,h⟩=>⟨env,st,ρ,re,rs,h.then λaa H1 x au e1 s1 h1 v rv=>by
  cases x with
  |ref n =>
   obtain ⟨ys,hn,h1⟩:=jB h1
   obtain ⟨a,ws,rfl,ha,k1,k2⟩:=R.refL s1 rv hn
   cases hk:strsOf ys with
   |none=>rw [hk] at h1;exact h1.elim
   |some ks =>
    rw [hk] at h1
    obtain ⟨c,h1⟩:=Out.ifp h1
    rw [show ws=ks.map V.str from (rQ hk k2).trans (by rw [List.map_map];rfl)] at k1
    refine ⟨a,ks,rfl,k1,c,λl hl=>?_⟩
    have ep:Ext aa H1 (aa++[l]) (upd H1 l (.lst ((aL ks).reverse.map V.str))):=Ext.push hl
    exact h1 _ _ ep (s1.push hl ⟨_,yD,sH _⟩) _ ⟨l,rfl,by rw [<-s1.len];simp⟩
  |_=>exact h1.elim⟩
end
end Mi
namespace L2
open PySem PySem.Spec PyProof.Rows PySem.W
def Bm:R2:=λx y H Q=>∃z n,x=.str z/\y=.int n/\(0<=n/\n<=10000/\z.length<=100)/\Q (.str (bF z n)) H
def Lv {X:Cx}:bb X (binaryOp .Mult) Bm:=by
 intro pins s σ H x y v u Q I rx ry h
 obtain ⟨z,n,rfl,rfl,⟨h0,h1,h2⟩,q⟩:=h
 obtain ⟨t,rfl⟩:=rx
 obtain ⟨t',rfl⟩:=ry
 have hb:n.toNat*z.length<=1000000:=yW (Nat.mul_le_mul (show n.toNat<=10000 by omega) h2) (by decide)
 have hsz:=sizeLine_eq
 refine PySem.P.mul_str (by rw [js (by omega),js (by omega)];rfl) (λha _=>?_) (λ_ _=>?_) ?_
 ·have:(2 ^ 63-1:Int)/n>=1000:=by
   rw [ge_iff_le,Int.le_ediv_iff_mul_le (by omega)]
   omega
  omega
 ·show decide _=false
  rw [decide_eq_false_iff_not]
  have:z.length*n.toNat<=1000000:=by rw [Nat.mul_comm];exact hb
  rw [sizeLine_eq];omega
 ·by_cases c1:n<1
  ·rw [zj c1]
   have e:bF z n=Str.empty:=by unfold bF;rw [zj c1]
   rw [e] at q
   exact ⟨by decide,.str Str.empty,H,I.tok _,⟨_,rfl⟩,q⟩
  ·rw [zx c1]
   by_cases c2:(n==1||z.length==0)=true
   ·rw [zj c2]
    have e:bF z n=z:=by unfold bF;rw [zx c1,zj c2]
    rw [e] at q
    exact ⟨.str z,H,I,⟨_,rfl⟩,q⟩
   ·rw [zx c2]
    have e:bF z n=⟨(List.replicate n.toNat z.cps).foldl (·++·) #[]⟩:=by unfold bF;rw [zx c1,zx c2]
    have hl:=AH z n
    rw [e] at q hl
    exact ⟨by rw [hl,sizeLine_eq];omega,.str _,H,I.tok _,⟨_,rfl⟩,q⟩
end L2
namespace Mi
open PySem L2 PySem.W PySem.Spec PyProof.Rows
def fY:Am
 |.int i,.int j,st=>rk (.int i) (.int j) st
 |.str z,.int n,st=>if 0<=n/\n<=10000/\z.length<=100 then .ok (.str (bF z n)) st else .stuck
 |_,_,_=>.stuck
def zct {X:Cx}:cS X .Mult fY:=by
 obtain ⟨r,h1,h2⟩:=xx (X:=X)
 refine ⟨λx y H Q=>r x y H Q\/Bm x y H Q,h1.or Lv,fun ρ H st x y v w Q E s rx ry h=>?_⟩
 cases x with
 |int i =>
  cases y with
  |int j=>exact .inl (h2 ρ H st (.int i) (.int j) v w Q E s rx ry h)
  |_=>exact h.elim
 |str z =>
  cases y with
  |int n =>
   obtain ⟨c,h⟩:=Out.ifp h
   cases rx;cases ry
   exact .inr ⟨z,n,rfl,rfl,c,Out.now (x:=PV.str (bF z n)) h s _ rfl⟩
  |_=>exact h.elim
 |_=>exact h.elim
end Mi
abbrev Mi.At (n:Nat):Option Mi.PV:=some (.ref n)
abbrev Mi.Au (n:Nat):Option Mi.PV:=some (.int n)
abbrev Mi.Ar (i:Int):=Mi.mC (.int i)
abbrev Mi.As (z:PySem.Str):=Mi.mC (.str z)
namespace FK22
open PySem L2 PySem.W Mi
def top (i:Nat):Stmt:=PySem.Challenge.pw_foreknown_k22_values_spoilt.main.body.getD i (.Pass ⟨0,0,0,0⟩)
abbrev ze0:Stmt:=top 18
abbrev zdr:Stmt:=top 23
abbrev Bn:Stmt:=top 19
abbrev ze1:Stmt:=top 21
abbrev Bo:Stmt:=top 20
abbrev ze2:Stmt:=top 22
abbrev Bp:Stmt:=top 25
abbrev Bq:Stmt:=top 27
abbrev Br:Stmt:=top 26
abbrev ze3:Stmt:=top 28
abbrev Bs:Stmt:=top 29
abbrev Bt:Stmt:=inClass (top 15) 0
abbrev Bu:Stmt:=inClass (top 15) 1
abbrev Bv:Stmt:=inClass (top 15) 3
abbrev Bw:Stmt:=inClass (top 15) 4
abbrev ze4:Stmt:=top 11
abbrev Bx:Stmt:=inClass (top 15) 6
abbrev By:Stmt:=inClass (top 15) 2
abbrev Bz:Stmt:=inClass (top 15) 8
abbrev BA:Stmt:=inClass (top 15) 10
abbrev BB:Stmt:=inClass (top 15) 9
abbrev BC:Stmt:=inClass (top 15) 7
abbrev BD:Stmt:=inClass (top 15) 5
abbrev BE:Stmt:=top 16
abbrev BF:Stmt:=top 24
abbrev BG:Stmt:=top 33
abbrev sQ:Stmt:=top 30
abbrev zdt:Stmt:=top 31
abbrev BH:Stmt:=top 34
abbrev BI:Stmt:=top 32
abbrev zdu:Stmt:=top 35
def insOf (c:Str):Bool:=decide (c = "ValueReader")
def excOf (c:Str):Bool:=false
def zbc (c:Str):Bool:=decide (c = "NoText")
def isT:IsT where
 isx c:=decide (c = "NoText")
 sub c B:=if c = "NoText" then ([("Twice", false),("Unbound", false),("NoFunction", false),("WrongCount", false),("ForeError", true),("NoText", true)]:List (Str×Bool)).lookup B else none
 subT c n:=if c = "NoText" then ([("ValueError", true)]:List (String×Bool)).lookup n else none
 tyC _ _:=none
structure Txt (w:World) (K:Frag) (mg:Ab):Prop where
 f__law_deck:FnF K mg "_law_deck" ze0 ["_law_script"]
 f__law_text:FnF K mg "_law_text" zdr ["_law_value_here"]
 f__law_next:FnF K mg "_law_next" Bn ["_law_deck_here", "_law_many"]
 f__law_word:FnF K mg "_law_word" ze1 ["_law_deck_here"]
 f__law_number:FnF K mg "_law_number" Bo ["_law_deck_here"]
 f__law_value:FnF K mg "_law_value" ze2 ["_law_deck_here", "_law_deep"]
 f__law_by_hand:FnF K mg "_law_by_hand" Bp ["_law_deck_here"]
 f__law_two_words:FnF K mg "_law_two_words" Bq ["_law_deck_here"]
 f__law_strange_word:FnF K mg "_law_strange_word" Br ["_law_deck_here"]
 f__law_made:FnF K mg "_law_made" ze3 ["_law_deck_here"]
 f__law_bad:FnF K mg "_law_bad" Bs ["_law_deck_here"]
 n_ValueReader:NwF K mg "ValueReader" "ValueReader.__init__" Bt ["self", "text"]
 m_ValueReader_sign_here:MtF K mg "ValueReader" "sign_here" "ValueReader.sign_here" Bu ["self"]
 m_ValueReader_passes:MtF K mg "ValueReader" "passes" "ValueReader.passes" Bv ["self", "sign"]
 m_ValueReader_run_of:MtF K mg "ValueReader" "run_of" "ValueReader.run_of" Bw ["self", "signs"]
 f_is_word:FnF K mg "is_word" ze4 ["thing"]
 m_ValueReader_read_word:MtF K mg "ValueReader" "read_word" "ValueReader.read_word" Bx ["self"]
 m_ValueReader_pass_sign:MtF K mg "ValueReader" "pass_sign" "ValueReader.pass_sign" By ["self", "sign"]
 m_ValueReader_read_row:MtF K mg "ValueReader" "read_row" "ValueReader.read_row" Bz ["self"]
 m_ValueReader_read_entry:MtF K mg "ValueReader" "read_entry" "ValueReader.read_entry" BA ["self", "record", "last"]
 m_ValueReader_read_record:MtF K mg "ValueReader" "read_record" "ValueReader.read_record" BB ["self"]
 m_ValueReader_read_number:MtF K mg "ValueReader" "read_number" "ValueReader.read_number" BC ["self"]
 m_ValueReader_read_part:MtF K mg "ValueReader" "read_part" "ValueReader.read_part" BD ["self"]
 f_read_value:FnF K mg "read_value" BE ["text"]
 f__law_only_no_text:FnF K mg "_law_only_no_text" BF ["_law_e"]
 f__law_refused:FnF K mg "_law_refused" BG ["_law_text_here"]
 f__law_is_value:FnF K mg "_law_is_value" sQ ["_law_value_here", "_law_deep"]
 f__law_parts:FnF K mg "_law_parts" zdt ["_law_value_here"]
 f__law_fits:FnF K mg "_law_fits" BH ["_law_text_here"]
 f__law_changed:FnF K mg "_law_changed" BI ["_law_deck_here", "_law_text_here"]
 f_law:FnF K mg "law" zdu ["_law_script"]
 x0_NoText:X0F K mg "NoText"
 a_ForeError:∃f,mg "ForeError" = some (.ref f)
 a_NoFunction:∃f,mg "NoFunction" = some (.ref f)
 a_NoText:∃f,mg "NoText" = some (.ref f)
 a_Twice:∃f,mg "Twice" = some (.ref f)
 a_Unbound:∃f,mg "Unbound" = some (.ref f)
 a_WrongCount:∃f,mg "WrongCount" = some (.ref f)
 b_ValueError:mg "ValueError" = none
 b_all:mg "all" = none
 b_bool:mg "bool" = none
 b_dict:mg "dict" = none
 b_int:mg "int" = none
 b_isinstance:mg "isinstance" = none
 b_len:mg "len" = none
 b_max:mg "max" = none
 b_range:mg "range" = none
 b_sorted:mg "sorted" = none
 b_str:mg "str" = none
 b_sum:mg "sum" = none
 b_tuple:mg "tuple" = none
 c_FIGURES:∃t,mg "FIGURES" = some (.str "0123456789" t)
 c_LETTERS:∃t,mg "LETTERS" = some (.str "abcdefghijklmnopqrstuvwxyz" t)
 c_MOST_FIGURES:∃t,mg "MOST_FIGURES" = some (.int 18 t)
 c_MOST_PARTS:∃t,mg "MOST_PARTS" = some (.int 60 t)
 c_MOST_SIGNS:∃t,mg "MOST_SIGNS" = some (.int 8 t)
 sb_ForeError:∃B,mg "ForeError" = some (.ref B)/\ExOf K B/\∀c,zbc c=true->∃C,mg c=some (.ref C)/\ExSub K C B
 d_begun:FldF K mg "begun" insOf excOf
 d_place:FldF K mg "place" insOf excOf
 d_text:FldF K mg "text" insOf excOf
 is:IsF K mg isT
section
variable {P:Program} {w:World} {K:Frag} {mg:Ab} {base:Heap}
set_option hygiene false in
local macro_rules
|`(tactic|exact $s:str)=>do
 let ts<-(s.getString.splitOn " ").toArray.mapM λ(w:String)=>do
  let p:=(w.drop 1).toString
  let i:Lean.TSyntax `term:=if p.all Char.isDigit then ⟨(Lean.Syntax.mkNumLit p).raw⟩ else ⟨(Lean.mkIdent p.toName).raw⟩
  match w.toList.headD 'a' with
  |'a'=>`(tactic|refine $i ?_ ?_)
  |'b'=>`(tactic|exact (zd $i))
  |'c'=>`(tactic|refine $i ?_)
  |'d'=>`(tactic|exact $i)
  |'e'=>`(tactic|refine zu $i ?_ ?_)
  |'f'=>`(tactic|refine zS ($i T) (hr.mono (by decide)) zE ?_)
  |'g'=>`(tactic|refine $i ?_ ?_ ?_)
  |'h'=>`(tactic|refine ye ($i (zX hr)) ?_ ?_)
  |'i'=>`(tactic|refine zZ $i ?_ ?_)
  |'j'=>`(tactic|refine jM (λc m h=>$i T h) ?_ (hr.mono (by omega)) zE ?_)
  |'k'=>`(tactic|refine mK (N:=["_law_value_here"]) rfl (by exact ⟨rfl,by decide +kernel,by decide +kernel,rfl,by show ∀y:Str×NameKind,y∈_->y.2=NameKind.free->List.lookup y.1 (zI $i).names=some NameKind.cell;decide +kernel⟩) rfl (by decide +kernel) ?_ ?_)
  |'l'=>`(tactic|refine yj j8 T.b_isinstance y9 ?_)
  |'m'=>`(tactic|refine zh ?_ ?_)
  |'n'=>`(tactic|refine je ?_ ?_ ?_ ?_)
  |'o'=>`(tactic|exact λ_ _=>rfl)
  |'p'=>`(tactic|refine yj j7 T.b_len j5 ?_)
  |'q'=>`(tactic|exact (jf (zX hr)))
  |'r'=>`(tactic|refine zS da (hr.mono (by omega)) $i ?_)
  |'s'=>`(tactic|exact zq)
  |'t'=>`(tactic|exact zp)
  |'u'=>`(tactic|refine mK (N:=["_law_value_here", "_law_deep", "_law_word_here"]) rfl (by exact ⟨rfl,by decide +kernel,by decide +kernel,rfl,by show ∀y:Str×NameKind,y∈_->y.2=NameKind.free->List.lookup y.1 (zI sQ).names=some NameKind.cell;decide +kernel⟩) rfl (by decide +kernel) ?_ ?_)
  |'v'=>`(tactic|refine zw ?_ ?_)
  |'w'=>`(tactic|exact (Li T.x0_NoText zE rfl))
  |'x'=>`(tactic|refine zS ($i T) (hr.mono (by omega)) zE ?_)
  |'y'=>`(tactic|refine wo JY T.b_str j6 ?_)
  |'z'=>`(tactic|refine zC ?_)
  |'A'=>`(tactic|intro _ _ _ _ _)
  |'B'=>`(tactic|refine ye $i ?_ ?_)
  |'C'=>`(tactic|refine zu zH ?_ ?_)
  |'D'=>`(tactic|refine zS (BJ T 61) (hr.mono (by decide)) zE ?_)
  |'E'=>`(tactic|refine wq $i ?_)
  |'F'=>`(tactic|refine zL ?_)
  |'G'=>`(tactic|refine Je T.b_range ?_)
  |'H'=>`(tactic|refine $i (xj rfl rfl) rfl ?_ ?_ ?_)
  |'I'=>`(tactic|exact zP)
  |'J'=>`(tactic|refine wI (λc m h=>pk da h) ?_ (hr.mono (by omega)) zE)
  |'K'=>`(tactic|exact (zd 0))
  |'L'=>`(tactic|refine jM (λc m h=>$i T h) ?_ (hr.mono (by decide)) zE ?_)
  |'M'=>`(tactic|exact zT)
  |'N'=>`(tactic|refine wI (λc m h=>$i T h) ?_ (hr.mono (by omega)) zE)
  |'O'=>`(tactic|decide +kernel)
  |'P'=>`(tactic|refine zU ?_ ?_ ?_)
  |'Q'=>`(tactic|exact (jU T.b_str j6))
  |'R'=>`(tactic|refine Ig ($i (zX hr)) ?_ ?_)
  |'S'=>`(tactic|refine jM (λc m h=>pk (Lw T hk da) h) ?_ (hr.mono (by omega)) zE ?_)
  |'T'=>`(tactic|refine yj (Kk rfl) T.b_all Kl ?_)
  |'U'=>`(tactic|refine $i T.d_place ?_ ?_)
  |'V'=>`(tactic|refine wI (λc m h=>pk ($i T hk da) h) ?_ (hr.mono (by omega)) zE)
  |'W'=>`(tactic|exact (zd 1))
  |'X'=>`(tactic|refine Jf (xj rfl rfl) ?_ ?_)
  |'Y'=>`(tactic|refine wI (λc m h=>Lx T h) ?_ (hr.mono (by decide)) zE)
  |'Z'=>`(tactic|refine Lo (Ly T) (by exact (hr.mono (by decide))) ?_)
  |'0'=>`(tactic|exact (jU T.b_tuple rL))
  |'1'=>`(tactic|refine zS (BK T 5) (hr.mono (by decide)) zE ?_)
  |'2'=>`(tactic|refine yt ?_)
  |'3'=>`(tactic|exact (jU T.b_dict Jm))
  |'4'=>`(tactic|refine $i xy xy ?_ ?_ ?_)
  |'5'=>`(tactic|refine Jh (zfo T) (hr.mono (by decide)) ?_)
  |'6'=>`(tactic|refine zS ($i T 62) (hr.mono (by decide)) zE ?_)
  |'7'=>`(tactic|exact (zd 2))
  |'8'=>`(tactic|refine wq T.d_place ?_)
  |'9'=>`(tactic|refine Ih Io ?_)
  |'!'=>`(tactic|refine yj (JW rfl) T.b_sum JX ?_)
  |'$'=>`(tactic|exact ⟨rfl,by decide +kernel,by decide +kernel,rfl,by show ∀y:Str×NameKind,y∈_->y.2=NameKind.free->List.lookup y.1 (zI $i).names=some NameKind.cell;decide +kernel⟩)
  |'%'=>`(tactic|exact ⟨rfl,by decide +kernel,by decide +kernel,by show ∀y:Str×NameKind,y∈_->y.2=NameKind.free->List.lookup y.1 (zI $i).names=some NameKind.cell;decide +kernel⟩)
  |'('=>`(tactic|first|exact Or.inl rfl|exact Or.inr rfl)
  |')'=>`(tactic|first|exact .inl rfl|exact .inr rfl|assumption)
  |'#'=>`(tactic|exact ⟨rfl,rfl,rfl,by decide +kernel,rfl,by decide +kernel,by decide +kernel⟩)
  |_=>Lean.Macro.throwUnsupported
 `(tactic|($[$ts]*))
def zbd:aH ["_law_script", "_law_cells", "_law_deck_here", "_law_k", "_law_cell", "_law_first"] ["_law_script"] (zI ze0):=by exact "#"
def Lz:Aj :=
  zt (zQ 1 (yU (jE (jC (zb 0) bW (bA (Ar 180)))) (zf yK (zb 0) (Ar 2305843009213693951)))) (zt (zQ 2 (y1 zg)) (zt (gO (bT (ze (Ar 180) zg)) (gN 3)
  (zt (zQ 4 (Ar 1))
  (zt (zM (mB (zf jS (zo yz (ze (zb 1) zg)) (Ar 0)))
  (zQ 4 (zf z9 (zb 1) (zf yK (zb 3) (zo yz (ze (zb 1) zg)))))
  zN)
  (zt (zQ 5 (zf jk (zf yK (zb 4) (Ar 2147483629)) (zf zB (zf jk (Ar 2) (zb 3)) (Ar 1))))
  (jD (wt gP (zb 2) (zf yK (zf zB (zf zB (zb 5) (zf wZ (zb 4) (Ar 65537))) (zf jk (zf jk (Ar 7919) (zb 3)) (zb 3))) (Ar 2147483647)))))))) (zF (zb 2))))
def sS:Al:=z6 1 6 (Lz)
def zp2 (T:Txt w K mg):bH P w K mg base "_law_deck" 1 sS:=T.f__law_deck.ok (k:=0) zbd λ_ _ _ _ _ _ _ hr=>by
 exact "v"
 refine AU 1 (M:=["_law_script", "_law_cells", "_law_deck_here", "_law_k", "~_law_cell", "_law_first"]) rfl (by exact "$ze0") (by exact ⟨rfl,by show ∀p∈List.zip (["_law_script", "_law_cells", "_law_deck_here", "_law_k", "~_law_cell", "_law_first"]:Ad) (["_law_script", "_law_cells", "_law_deck_here", "_law_k", "_law_cell", "_law_first"]:Ad),p.1=p.2\/p.1∉(_:Ad);decide +kernel⟩) (by decide +kernel) ?_ ?_ zbd.nd rfl (by exact "(") (by exact ")") (by rfl)
 exact "czaw gwn K dw8 cjT s A ejR K s v i2 cjA t dzbd.nd v Hzdc G m s t"
 exact (mG 3 zbd.nd)
 exact "v i4 s dzbd.nd v P BzaW p m W t s z i4 n q W ejR b3 p m W t o dzbd.nd M v i5 ezaz ejR b4 s C ezaz s b3 s dzbd.nd z czaZ azg6 7 ejR C C b5 ezcf b4 s ezaz ezaz s b3 b3 s z F 7"
def BL:aH ["_law_value_here"] ["_law_value_here"] (zI zdr):=by exact "#"
def LA (mr:Al):Aj :=
  zt (zM (mB (zo yv (ze (zb 0) (ze (mC (.ty "str")) zg))))
  (zF (zf zB (As "'") (zb 0)))
  zN) (zt (zM (mB (zo yv (ze (zb 0) (ze (mC (.ty "tuple")) zg))))
  (zF (zf zB (zf zB (As "[") (fV (As ",") (yU (jE (zb 0)) (zo mr (ze (zb 0) zg))))) (As "]")))
  zN) (zt (zM (mB (zo yv (ze (zb 0) (ze (mC (.ty "dict")) zg))))
  (zF (zf zB (zf zB (As "{") (fV (As ",") (yU (jE (zo mW (ze (zb 0) zg))) (zf zB (zf zB (zb 0) (As ":")) (zo mr (ze (zf z9 (zb 1) (zb 0)) zg)))))) (As "}")))
  zN) (zF (zo jW (ze (zb 0) zg)))))
def sT (mr:Al):Al:=z6 1 1 (LA mr)
def LB (T:Txt w K mg) {k:Nat} (hk:1<=k) {mr:Al} (da:bH P w K mg base "_law_text" k mr):bH P w K mg base "_law_text" (k+1) (sT mr):=T.f__law_text.ok (k:=k+0) BL λ_ _ _ _ _ _ _ hr=>by
 exact "v P 2 l m K m Q t z F C I K M v P 2 l m K m 0 t z F C C I azdo I kzdr czaw K A rza5 m K t I M v P 2 l m K m 3 t z F C C I azdo I kzdr czaw"
 refine yj (Lc rfl) T.b_sorted Bk ?_
 exact "m K t A C C K I rza5 m n q W K o t I M z F y m K t"
def wL:Nat->Al
 |0=>z6 1 1 k8
 |n+1=>sT (wL n)
theorem BJ (T:Txt w K mg):∀n,bH P w K mg base "_law_text" (1+1+1*n) (wL n)
 |0=>T.f__law_text.ok (k:=1) BL λf aQ A outer s H E hr=>mQ
 |n+1=>(LB T (by omega) (BJ T n)).mono (by omega)
def LC:aH ["_law_deck_here", "_law_many"] ["_law_deck_here", "_law_many"] (zI Bn):=by exact "#"
def LD:Aj :=
  zt (zM (mB (zf yf (zo yz (ze (zb 0) zg)) (Ar 0)))
  (zF (Ar 0))
  zN) (zF (zf yK (wt Bf (zb 0) (Ar 0)) (zb 1)))
def yF:Al:=z6 2 2 (LD)
def yQ (T:Txt w K mg):bH P w K mg base "_law_next" 1 yF:=T.f__law_next.ok (k:=0) LC λ_ _ _ _ _ _ _ hr=>by
 exact "v P hyy p m K t s z F s M z F ejR azpC K s W"
def zdv:aH ["_law_deck_here", "_law_letters", "_law_size", "_law_cell"] ["_law_deck_here"] (zI ze1):=by exact "#"
def LF:Aj :=
  zt (zQ 1 (As "abcdefghijklmnopqrstuvwxyz")) (zt (zQ 2 (zf zB (Ar 1) (zo yF (ze (zb 0) (ze (Ar 8) zg))))) (zt (zQ 3 (zo yF (ze (zb 0) (ze (Ar 1000000007) zg)))) (zF (fV (As "") (yU (bT (ze (zb 2) zg)) (zf z9 (zb 2) (zf yK (zf zB (zf wZ (zb 4) (zf zB (Ar 1) (zf jk (zf jk (zb 0) (zb 0)) (zb 0)))) (zf jk (zb 0) (zb 3))) (Ar 26))))))))
def gZ:Al:=z6 1 4 (LF)
def zcv (T:Txt w K mg):bH P w K mg base "_law_word" 2 gZ:=T.f__law_word.ok (k:=1) zdv λ_ _ _ _ _ _ _ hr=>by
 exact "v i1 I dzdv.nd v i2 C s fyQ m K m s t dzdv.nd v i3 fyQ m K m s t dzdv.nd z F azdo I"
 refine mK (N:=["_law_deck_here", "_law_letters", "_law_size", "_law_cell"]) rfl (by exact "$ze1") rfl (by decide +kernel) ?_ ?_
 exact "G m 7 t A n q 7 ejR C ezcf b4 C s ezaz ezaz K K K ezaz K b3 s o"
def zdw:aH ["_law_deck_here", "_law_way", "_law_some", "_law_number_here"] ["_law_deck_here"] (zI Bo):=by exact "#"
def BM:Aj :=
  zt (zM (mB (zf yf (zb 1) (Ar 3)))
  (zt (zQ 2 (y1 (ze (zf j4 (zf jK (Ar 10) (Ar 18)) (Ar 1)) (ze (zf j4 (Ar 1) (zf jK (Ar 10) (Ar 18))) (ze (zf jK (Ar 10) (Ar 17)) (ze (zf j4 (Ar 1) (zf jK (Ar 10) (Ar 17))) (ze (Ar 99) (ze (yJ mD (Ar 10)) zg))))))))
  (zF (zf z9 (zb 2) (zo yF (ze (zb 0) (ze (Ar 6) zg))))))
  zN) (zt (zQ 3 (zf zB (zf jk (zo yF (ze (zb 0) (ze (zf jK (Ar 10) (Ar 9)) zg))) (zf jK (Ar 10) (Ar 9))) (zo yF (ze (zb 0) (ze (zf jK (Ar 10) (Ar 9)) zg))))) (zF (zf z9 (y1 (ze (zb 3) (ze (zf j4 (Ar 0) (zb 3)) zg))) (zf yK (zb 1) (Ar 2)))))
def BN:Aj :=
  zt (zM (mB (zf yf (zb 1) (Ar 2)))
  (zF (zf j4 (Ar 0) (zo yF (ze (zb 0) (ze (Ar 1000) zg)))))
  zN) (BM)
def BO:Aj :=
  zt (zM (mB (zf wH (zb 1) (Ar 2)))
  (zF (zo yF (ze (zb 0) (ze (Ar 10) zg))))
  zN) (BN)
def pA:Aj :=
  zt (zQ 1 (zo yF (ze (zb 0) (ze (Ar 6) zg)))) (BO)
def sU:Al:=z6 1 4 (pA)
def zp8 (T:Txt w K mg):bH P w K mg base "_law_number" 2 sU:=T.f__law_number.ok (k:=1) zdw λ_ _ _ _ _ _ _ hr=>by
 exact "v i1 fyQ m K m s t dzdw.nd v P Bzch W s z F fyQ m K m s t M v P hyy W s z F ezat s fyQ m K m s t M v P hyy W s v i2 cjA m ezat ewG s s s m ezat s ewG s s m ewG s s m ezat s ewG s s m s m 9 s t dzdw.nd z F n q 7 fyQ m K m s t o M v i3 C ezaz fyQ m K m ewG s s t ewG s s fyQ m K m ewG s s t dzdw.nd z F n q cjA m b3 m ezat s b3 t ejR W s o"
def zbP:aH ["_law_deck_here", "_law_deep", "_law_way", "_law_record", "_law_k", "_law_word_here"] ["_law_deck_here", "_law_deep"] (zI ze2):=by exact "#"
def BP (mr:Al):Aj :=
  zt (zM (wF (mB (zf jS (zb 1) (Ar 0))) (mB (zf yf (zb 2) (Ar 7))))
  (zt (zQ 3 oX)
  (zt (gO (bT (ze (zo yF (ze (zb 0) (ze (Ar 4) zg))) zg)) (gN 4)
  (zt (zQ 5 (zo gZ (ze (zb 0) zg)))
  (wJ (zb 3) (zb 5) (zo mr (ze (zb 0) (ze (zf j4 (zb 1) (Ar 1)) zg))))))
  (zF (zb 3))))
  zN) (zF (zo sU (ze (zb 0) zg)))
def BQ (mr:Al):Aj :=
  zt (zM (wF (mB (zf jS (zb 1) (Ar 0))) (ju (mB (zf yf (zb 2) (Ar 5))) (mB (zf yf (zb 2) (Ar 6)))))
  (zF (zo oR (ze (yU (bT (ze (zo yF (ze (zb 0) (ze (Ar 4) zg))) zg)) (zo mr (ze (zb 1) (ze (zf j4 (zb 2) (Ar 1)) zg)))) zg)))
  zN) (BP mr)
def BR (mr:Al):Aj :=
  zt (zM (ju (mB (zf yf (zb 2) (Ar 3))) (mB (zf yf (zb 2) (Ar 4))))
  (zF (zo gZ (ze (zb 0) zg)))
  zN) (BQ mr)
def pB (mr:Al):Aj :=
  zt (zQ 2 (zo yF (ze (zb 0) (ze (Ar 8) zg)))) (BR mr)
def sV (mr:Al):Al:=z6 2 6 (pB mr)
def LG (T:Txt w K mg) {k:Nat} (hk:2<=k) {mr:Al} (da:bH P w K mg base "_law_value" k mr):bH P w K mg base "_law_value" (k+1) (sV mr):=T.f__law_value.ok (k:=k+0) zbP λ_ _ _ _ _ _ _ hr=>by
 exact "v i2 xyQ m K m s t dzbP.nd v P cjJ awX hyy 7 s cwW hyy 7 s z F xzcv m K t M v P cjJ azcd BzaW W s czcc cjJ awX hyy 7 s cwW hyy 7 s z F"
 refine wo xE T.b_tuple rL ?_
 exact "m"
 refine AA (M:=["_law_deck_here", "_law_deep", "_law_way", "_law_record", "~_law_k", "_law_word_here"]) rfl (by exact "$ze2") (by exact ⟨rfl,by show ∀p∈List.zip (["_law_deck_here", "_law_deep", "_law_way", "_law_record", "~_law_k", "_law_word_here"]:Ad) (["_law_deck_here", "_law_deep", "_law_way", "_law_record", "_law_k", "_law_word_here"]:Ad),p.1=p.2\/p.1∉(_:Ad);decide +kernel⟩) (by decide +kernel) ?_ ?_
 exact "G m xyQ m K m s t t A rza5 m W m ezat 7 s t t M v P cjJ azcd BzaW W s czcc hyy 7 s v i3 dzeI dzbP.nd v Hzdc G m xyQ m K m s t t"
 exact (mG 4 zbP.nd)
 exact "v i5 xzcv m K t dzbP.nd z"
 refine Av ?_ ?_ ?_ ?_ ?_
 exact (zX hr)
 exact "b3 b5 rzE m K m ezat W s t"
 rfl
 exact "z F b3 M z F xzp8 m K t"
def jF:Nat->Al
 |0=>z6 2 6 k8
 |n+1=>sV (jF n)
theorem BK (T:Txt w K mg):∀n,bH P w K mg base "_law_value" (2+1+1*n) (jF n)
 |0=>T.f__law_value.ok (k:=2) zbP λf aQ A outer s H E hr=>mQ
 |n+1=>(LG T (by omega) (BK T n)).mono (by omega)
def zaK:aH ["_law_deck_here", "_law_some"] ["_law_deck_here"] (zI Bp):=by exact "#"
def BS:Aj :=
  (zF (zf z9 (zb 1) (zo yF (ze (zb 0) (ze (zo yz (ze (zb 1) zg)) zg)))))
def BU:Aj :=
  zt (zQ 1 (zf zB (zb 1) (y1 (wK [",", ":", "a:1", "a", "abc", "'", "''", "'a'", "'A", "'aB", "'a1", "'a b", "' a", "\"a\""])))) (zt (zQ 1 (zf zB (zb 1) (y1 (wK ["[", "]", "[1", "1]", "[1,]", "[,1]", "[,]", "[1,,2]", "[1, 2]", "[1 ,2]", "[ ]", "[1;2]", "(1)"])))) (zt (zQ 1 (zf zB (zb 1) (y1 (wK ["()", "[[]", "[]]", "[[1],[2]", "[}", "{]", "{", "}", "{a}", "{a:}", "{:1}", "{:}"])))) (zt (zQ 1 (zf zB (zb 1) (y1 (wK ["{a:1", "{a:1,}", "{,a:1}", "{a:1 }", "{ a:1}", "{a: 1}", "{a::1}", "{a=1}", "{a:1;b:2}", "{'a:1}"])))) (zt (zQ 1 (zf zB (zb 1) (y1 (wK ["{A:1}", "{a1:1}", "{{}}"])))) (zt (zQ 1 (zf zB (zb 1) (y1 (wK ["True", "None", "[1]2", "{}{}", "[][]", "'a,", "0-", "1-2", "-a", "[-]", "\n1", "1\n", "[1,\n2]"])))) (BS))))))
def LH:Aj :=
  zt (zQ 1 (y1 (wK ["", "-", "--1", "+1", "-0", "00", "007", "-01", "0x1", "1.5", "1.0", "1e3", "1_0", "1 ", " 1", "1 2", "1,"]))) (BU)
def sW:Al:=z6 1 2 (LH)
def zqb (T:Txt w K mg):bH P w K mg base "_law_by_hand" 2 sW:=T.f__law_by_hand.ok (k:=1) zaK λ_ _ _ _ _ _ _ hr=>by
 exact "v i1 cjA czaB O dzaK.nd v i1 C W cjA czaB O dzaK.nd v i1 C W cjA czaB O dzaK.nd v i1 C W cjA czaB O dzaK.nd v i1 C W cjA czaB O dzaK.nd v i1 C W cjA czaB O dzaK.nd v i1 C W cjA czaB O dzaK.nd z F n q W fyQ m K m p m W t t o"
def zfb:aH ["_law_deck_here", "_law_first", "_law_second"] ["_law_deck_here"] (zI Bq):=by exact "#"
def BV:Aj :=
  zt (zM (mB (zf yf (zb 1) (zb 2)))
  (zF (y1 (ze (zb 1) (ze (zb 1) zg))))
  zN) (zF (yJ sP (y1 (ze (zb 1) (ze (zb 2) zg)))))
def BW:Aj :=
  zt (zQ 1 (zo gZ (ze (zb 0) zg))) (zt (zQ 2 (zo gZ (ze (zb 0) zg))) (BV))
def sX:Al:=z6 1 3 (BW)
def zqc (T:Txt w K mg):bH P w K mg base "_law_two_words" 3 sX:=T.f__law_two_words.ok (k:=2) zfb λ_ _ _ _ _ _ _ hr=>by
 exact "v i1 fzcv m K t dzfb.nd v i2 fzcv m K t dzfb.nd v P hyy W 7 z F cjA m W m W t M z F"
 refine Lu T.b_sorted ?_
 exact "cjA m W m 7 t"
def zdz:aH ["_law_deck_here", "_law_word_here", "_law_at", "_law_sign"] ["_law_deck_here"] (zI Br):=by exact "#"
def BX:Aj :=
  zt (zM (mB (zf yf (zo yF (ze (zb 0) (ze (Ar 2) zg))) (Ar 1)))
  (zF (jC (zf zB (zb 1) (As "abcdefghi")) bW (bA (Ar 9))))
  zN) (zF (zf zB (zf zB (jC (zb 1) bW (bA (zb 2))) (zb 3)) (jC (zb 1) (bA (zf zB (zb 2) (zo yF (ze (zb 0) (ze (Ar 2) zg))))) bW)))
def BZ:Aj :=
  zt (zQ 1 (zo gZ (ze (zb 0) zg))) (zt (zQ 2 (zo yF (ze (zb 0) (ze (zf zB (zo yz (ze (zb 1) zg)) (Ar 1)) zg)))) (zt (zQ 3 (zf z9 (As "AZ019_ -.'[]{},:~") (zo yF (ze (zb 0) (ze (Ar 17) zg))))) (BX)))
def sY:Al:=z6 1 4 (BZ)
def zqd (T:Txt w K mg):bH P w K mg base "_law_strange_word" 3 sY:=T.f__law_strange_word.ok (k:=2) zdz λ_ _ _ _ _ _ _ hr=>by
 exact "v i1 fzcv m K t dzdz.nd v i2 fyQ m K m C p m W t s t dzdz.nd v i3 n q I fyQ m K m s t o dzdz.nd v P hyy fyQ m K m s t s z F gwn C W I dw8 cjT s M z F C C gwn W dw8 cjT 7 b3 gwn W cjT C 7 fyQ m K m s t dw8"
def zbQ:aH ["_law_deck_here", "_law_way", "_law_number_here", "_law_words", "_law_part", "_law_strange"] ["_law_deck_here"] (zI ze3):=by exact "#"
def B0:Aj :=
  zt (zM (mB (zf yf (zb 1) (Ar 7)))
  (zF (zf zB (zf zB (zf zB (zf zB (As "{") (zb 5)) (As "9:")) (zo jW (ze (zb 2) zg))) (As "}")))
  zN) (zF (zf zB (zf zB (As "'") (zb 5)) (As "Q")))
def B1:Aj :=
  zt (zQ 5 (zo sY (ze (zb 0) zg))) (B0)
def B2:Aj :=
  zt (zM (mB (zf yf (zb 1) (Ar 6)))
  (zt (zQ 4 (zf zB (zf zB (zf z9 (zb 3) (Ar 0)) (As ":")) (zo jW (ze (zb 2) zg))))
  (zF (zf zB (zf zB (zf zB (zf zB (As "{") (zb 4)) (As ",")) (zb 4)) (As "}"))))
  zN) (B1)
def B3:Aj :=
  zt (zM (mB (zf yf (zb 1) (Ar 5)))
  (zF (zf zB (zf zB (zf zB (zf zB (zf zB (zf zB (As "{") (zf z9 (zb 3) (Ar 0))) (As ":")) (zo jW (ze (zb 2) zg))) (As ",")) (zf z9 (zb 3) (Ar 1))) (As ":'a}")))
  zN) (B2)
def B4:Aj :=
  zt (zQ 3 (zo sX (ze (zb 0) zg))) (B3)
def B5:Aj :=
  zt (zM (mB (zf yf (zb 1) (Ar 4)))
  (zF (zf zB (zf zB (zf fY (As "[") (Ar 60)) (zo jW (ze (zb 2) zg))) (zf fY (As "]") (Ar 60))))
  zN) (B4)
def B6:Aj :=
  zt (zM (mB (zf yf (zb 1) (Ar 3)))
  (zF (zf zB (zf zB (As "[") (fV (As ",") (yU (bT (ze (Ar 60) zg)) (zo jW (ze (zf yK (zf fY (zb 3) (zb 0)) (Ar 1999)) zg))))) (As "]")))
  zN) (B5)
def B7:Aj :=
  zt (zM (mB (zf yf (zb 1) (Ar 2)))
  (zF (zf fY (zf z9 (As "123456789") (zf yK (zb 2) (Ar 9))) (zf z9 (y1 (ze (Ar 19) (ze (Ar 20) (ze (Ar 60) (ze (Ar 5000) zg))))) (zf yK (zf wZ (zb 2) (Ar 9)) (Ar 4)))))
  zN) (B6)
def B8:Aj :=
  zt (zM (mB (zf yf (zb 1) (Ar 1)))
  (zF (zf zB (zf z9 (y1 (ze (As "") (ze (As "-") zg))) (zf yK (zb 2) (Ar 2))) (zo jW (ze (zf zB (zf jK (Ar 10) (Ar 18)) (zf fY (zb 2) (zf yK (zf wZ (zb 2) (Ar 2)) (Ar 2)))) zg))))
  zN) (B7)
def B9:Aj :=
  zt (zM (mB (zf yf (zb 1) (Ar 0)))
  (zF (zf zB (zf z9 (y1 (wK ["0", "-0", "00"])) (zf yK (zf wZ (zb 2) (Ar 3)) (Ar 3))) (zo jW (ze (zb 2) zg))))
  zN) (B8)
def B_:Aj :=
  zt (zM (wF (mB (zf yf (zb 1) (Ar 0))) (mB (zf yf (zf yK (zb 2) (Ar 3)) (Ar 0))))
  (zF (As "-0"))
  zN) (B9)
def wx:Aj :=
  zt (zQ 1 (zo yF (ze (zb 0) (ze (Ar 9) zg)))) (zt (zQ 2 (zo yF (ze (zb 0) (ze (zf jK (Ar 10) (Ar 9)) zg)))) (B_))
def iT:Al:=z6 1 6 (wx)
def zqe (T:Txt w K mg):bH P w K mg base "_law_made" 4 iT:=T.f__law_made.ok (k:=3) zbQ λ_ _ _ _ _ _ _ hr=>by
 exact "v i1 fyQ m K m s t dzbQ.nd v i2 fyQ m K m ewG s s t dzbQ.nd v P cjJ azcd hyy W s czcc hyy ejR 7 s s z F I M v P hyy W s z F C n q cjA czaB O ejR ezcf 7 s s o y m 7 t M v P hyy W s z F C n q cjA m I m I t ejR 7 s o y m C ewG s s ezct 7 ejR ezcf 7 s s t M v P hyy W s z F ezct n q I ejR 7 s o n q cjA m s m s m s m s t ejR ezcf 7 s s o M v P hyy W s z F C C I azdo I"
 refine mK (N:=["_law_deck_here", "_law_way", "_law_number_here", "_law_words", "_law_part", "_law_strange"]) rfl (by exact "$ze3") rfl (by decide +kernel) ?_ ?_
 exact "G m s t A y m ejR ezct b3 K s t I M v P hyy W s z F C C ezct I s y m 7 t ezct I s M v i3 fzqc m K t dzbQ.nd v P hyy W s z F C C C C C C I n q b3 s o I y m 7 t I n q b3 s o I M v P hyy W s v i4 C C n q b3 s o I y m 7 t dzbQ.nd z F C C C C I b4 I b4 I M v i5 fzqd m K t dzbQ.nd v P hyy W s z F C C C C I b5 I y m 7 t I M z F C C I b5 I"
def zcw:aH ["_law_deck_here", "_law_text_here", "_law_way", "_law_good"] ["_law_deck_here"] (zI Bs):=by exact "#"
def Ca:Aj :=
  zt (zM (mB (zf yf (zb 2) (Ar 4)))
  (zF (zf zB (zf zB (zf zB (zf zB (As "{a:") (zb 3)) (As ",b:")) (zb 1)) (As "}")))
  zN) (zF (zb 1))
def Cb:Aj :=
  zt (zM (mB (zf yf (zb 2) (Ar 3)))
  (zF (zf zB (zf zB (As "{a:") (zb 1)) (As "}")))
  zN) (Ca)
def Cc:Aj :=
  zt (zM (mB (zf yf (zb 2) (Ar 2)))
  (zF (zf zB (zf zB (zf zB (zf zB (zf zB (zf zB (As "[") (zb 3)) (As ",")) (zb 1)) (As ",")) (zb 3)) (As "]")))
  zN) (Cb)
def Cd:Aj :=
  zt (zM (mB (zf yf (zb 2) (Ar 1)))
  (zF (zf zB (zf zB (zf zB (zf zB (As "[") (zb 1)) (As ",")) (zb 3)) (As "]")))
  zN) (Cc)
def Ce:Aj :=
  zt (zM (mB (zf yf (zb 2) (Ar 0)))
  (zF (zf zB (zf zB (zf zB (zf zB (As "[") (zb 3)) (As ",")) (zb 1)) (As "]")))
  zN) (Cd)
def lC:Aj :=
  zt (zQ 1 (zo sW (ze (zb 0) zg))) (zt (zM (mB (zf yf (zo yF (ze (zb 0) (ze (Ar 2) zg))) (Ar 1)))
  (zQ 1 (zo iT (ze (zb 0) zg)))
  zN) (zt (zQ 2 (zo yF (ze (zb 0) (ze (Ar 9) zg)))) (zt (zQ 3 (zo (wL 61) (ze (zo (jF 5) (ze (zb 0) (ze (Ar 1) zg))) zg))) (Ce))))
def pD:Al:=z6 1 4 (lC)
def LI (T:Txt w K mg):bH P w K mg base "_law_bad" 64 pD:=T.f__law_bad.ok (k:=63) zcw λ_ _ _ _ _ _ _ hr=>by
 exact "v i1 fzqb m K t dzcw.nd v P hyy fyQ m K m s t s z i1 fzqe m K t dzcw.nd M v i2 fyQ m K m s t dzcw.nd v i3 D m 1 m K m s t t dzcw.nd v P hyy 7 s z F C C C C I b3 I W I M v P hyy 7 s z F C C C C I W I b3 I M v P hyy 7 s z F C C C C C C I b3 I W I b3 I M v P hyy 7 s z F C C I W I M v P hyy 7 s z F C C C C I b3 I W I M z F W"
def LJ:aH ["self", "text"] ["self", "text"] (zI Bt):=by exact "#"
def LK:Aj :=
  zt (sFld "text" insOf (zb 0) (zb 1)) (zt (sFld "place" insOf (zb 0) (Ar 0)) (sFld "begun" insOf (zb 0) (Ar 0)))
def pE:Al:=z6 2 2 (LK)
def LL (T:Txt w K mg):rF P w K mg base "ValueReader" 1 pE:=T.n_ValueReader.ok (k:=0) LJ λ_ _ _ _ _ _ _ hr=>by
 exact "v"
 refine zew T.d_text ?_ ?_
 exact "K W v Uzew K s z"
 refine zew T.d_begun ?_ ?_
 exact "K s"
def LM:aH ["self"] ["self"] (zI Bu):=by exact "#"
def LN:Aj :=
  (zF (jC (yJ (bo "text" insOf excOf) (zb 0)) (bA (yJ (bo "place" insOf excOf) (zb 0))) (bA (zf zB (yJ (bo "place" insOf excOf) (zb 0)) (Ar 1)))))
def m_ValueReader_sign_here:Al:=z6 1 1 (LN)
def LO (T:Txt w K mg):bP P w K mg base "ValueReader" "sign_here" 1 m_ValueReader_sign_here:=T.m_ValueReader_sign_here.ok (k:=0) LM λ_ _ _ _ _ _ _ hr=>by
 exact "z F gwn ET.d_text K cjT 8 K cjT C 8 K s"
def pF (c:Str):Option (Al):=if c = "ValueReader" then some m_ValueReader_sign_here else none
def Lx (T:Txt w K mg) {c:Str} {m:Al} (h:pF c=some m):bP P w K mg base c "sign_here" 1 m:=by
 unfold pF at h
 by_cases e0:c = "ValueReader"
 ·rw [zj e0] at h;cases h;rw [e0];exact (LO T).mono (by decide)
 rw [zx e0] at h
 cases h
def LP:aH ["self", "sign"] ["self", "sign"] (zI Bv):=by exact "#"
def LQ:Aj :=
  zt (zM (mB (zf k6 (yk "sign_here" pF (zb 0) zg) (zb 1)))
  (zF (mC (.bl false)))
  zN) (zt (w9 "place" insOf (zb 0) (Ar 1)) (zF (mC (.bl true))))
def m_ValueReader_passes:Al:=z6 2 2 (LQ)
def LR (T:Txt w K mg):bP P w K mg base "ValueReader" "passes" 2 m_ValueReader_passes:=T.m_ValueReader_passes.ok (k:=1) LP λ_ _ _ _ _ _ _ hr=>by
 exact "v P hzgX Y K W z F djQ M v Uzdg K s z F djQ"
def wy (c:Str):Option (Al):=if c = "ValueReader" then some m_ValueReader_passes else none
def zaL (T:Txt w K mg) {c:Str} {m:Al} (h:wy c=some m):bP P w K mg base c "passes" 2 m:=by
 unfold wy at h
 by_cases e0:c = "ValueReader"
 ·rw [zj e0] at h;cases h;rw [e0];exact (LR T).mono (by decide)
 rw [zx e0] at h
 cases h
def ziX:aH ["self", "signs", "start"] ["self", "signs"] (zI Bw):=by exact "#"
def LS:Aj :=
  zt (zQ 2 (yJ (bo "place" insOf excOf) (zb 0))) (zt (oU (wF (mB (zf wH (yJ (bo "place" insOf excOf) (zb 0)) (zo yz (ze (yJ (bo "text" insOf excOf) (zb 0)) zg)))) (mB (zf (jv false) (zf z9 (yJ (bo "text" insOf excOf) (zb 0)) (yJ (bo "place" insOf excOf) (zb 0))) (zb 1))))
  (w9 "place" insOf (zb 0) (Ar 1))) (zF (jC (yJ (bo "text" insOf excOf) (zb 0)) (bA (zb 2)) (bA (yJ (bo "place" insOf excOf) (zb 0))))))
def m_ValueReader_run_of:Al:=z6 2 3 (LS)
def LU (T:Txt w K mg):bP P w K mg base "ValueReader" "run_of" 1 m_ValueReader_run_of:=T.m_ValueReader_run_of.ok (k:=0) ziX λ_ _ _ _ _ _ _ hr=>by
 exact "v i2 8 K dziX.nd v X cjJ azcd Bzch 8 K p m ET.d_text K t czcc hzeJ n q ET.d_text K 8 K o W z Uzdg K s z F gwn ET.d_text K cjT 7 cjT 8 K"
def pG (c:Str):Option (Al):=if c = "ValueReader" then some m_ValueReader_run_of else none
def ziY (T:Txt w K mg) {c:Str} {m:Al} (h:pG c=some m):bP P w K mg base c "run_of" 1 m:=by
 unfold pG at h
 by_cases e0:c = "ValueReader"
 ·rw [zj e0] at h;cases h;rw [e0];exact (LU T).mono (by decide)
 rw [zx e0] at h
 cases h
def LV:aH ["thing"] ["thing"] (zI ze4):=by exact "#"
def LW:Aj :=
  zt (zM (ju (yT (mB (zo yv (ze (zb 0) (ze (mC (.ty "str")) zg))))) (yT (mB (jI wm wm (Ar 1) (zo yz (ze (zb 0) zg)) (Ar 8)))))
  (zF (mC (.bl false)))
  zN) (zF (zo iO (ze (yU (jE (zb 0)) (zf (jv false) (zb 0) (As "abcdefghijklmnopqrstuvwxyz"))) zg)))
def pH:Al:=z6 1 1 (LW)
def zqt (T:Txt w K mg):bH P w K mg base "is_word" 1 pH:=T.f_is_word.ok (k:=0) LV λ_ _ _ _ _ _ _ hr=>by
 exact "v P cjJ awX cj3 2 l m K m Q t cwW cj3 4zgR s p m K t"
 exact (rH T.c_MOST_SIGNS)
 exact "z F djQ M z F T m"
 refine mK (N:=["thing"]) rfl (by exact "$ze4") rfl (by decide +kernel) ?_ ?_
 exact "czaw K A RzeJ K"
 exact (rJ T.c_LETTERS)
 exact "t"
def ziZ:aH ["self", "word"] ["self"] (zI Bx):=by exact "#"
def LX:Aj :=
  zt (zQ 1 (yk "run_of" pG (zb 0) (ze (As "abcdefghijklmnopqrstuvwxyz") zg))) (zt (zM (yT (mB (zo pH (ze (zb 1) zg))))
  (bx "NoText")
  zN) (zF (zb 1)))
def m_ValueReader_read_word:Al:=z6 1 2 (LX)
def LY (T:Txt w K mg):bP P w K mg base "ValueReader" "read_word" 2 m_ValueReader_read_word:=T.m_ValueReader_read_word.ok (k:=1) ziZ λ_ _ _ _ _ _ _ hr=>by
 exact "v i1 LziY K m"
 exact (rJ T.c_LETTERS)
 exact "t dziZ.nd v P cj3 2 fzqt m W t z w M z F W"
def pI (c:Str):Option (Al):=if c = "ValueReader" then some m_ValueReader_read_word else none
def zi0 (T:Txt w K mg) {c:Str} {m:Al} (h:pI c=some m):bP P w K mg base c "read_word" 2 m:=by
 unfold pI at h
 by_cases e0:c = "ValueReader"
 ·rw [zj e0] at h;cases h;rw [e0];exact (LY T).mono (by decide)
 rw [zx e0] at h
 cases h
def LZ:aH ["self", "sign"] ["self", "sign"] (zI By):=by exact "#"
def L4:Aj :=
  zt (zM (mB (zf k6 (yk "sign_here" pF (zb 0) zg) (zb 1)))
  (bx "NoText")
  zN) (w9 "place" insOf (zb 0) (Ar 1))
def m_ValueReader_pass_sign:Al:=z6 2 2 (L4)
def L8 (T:Txt w K mg):bP P w K mg base "ValueReader" "pass_sign" 2 m_ValueReader_pass_sign:=T.m_ValueReader_pass_sign.ok (k:=1) LZ λ_ _ _ _ _ _ _ hr=>by
 exact "v P hzgX Y K W z w M z Uzdg K s"
def iU (c:Str):Option (Al):=if c = "ValueReader" then some m_ValueReader_pass_sign else none
def zfe (T:Txt w K mg) {c:Str} {m:Al} (h:iU c=some m):bP P w K mg base c "pass_sign" 2 m:=by
 unfold iU at h
 by_cases e0:c = "ValueReader"
 ·rw [zj e0] at h;cases h;rw [e0];exact (L8 T).mono (by decide)
 rw [zx e0] at h
 cases h
def zi1:aH ["self", "row"] ["self"] (zI Bz):=by exact "#"
def Cf (mr:Al):Aj :=
  zt (oU (mB (yk "passes" wy (zb 0) (ze (As ",") zg)))
  (jD (wt gP (zb 1) (yk "read_part" (jx "ValueReader" mr) (zb 0) zg)))) (zt (jD (yk "pass_sign" iU (zb 0) (ze (As "]") zg))) (zF (zo oR (ze (zb 1) zg))))
def Cg (mr:Al):Aj :=
  zt (zM (mB (yk "passes" wy (zb 0) (ze (As "]") zg)))
  (zF (oJ zg))
  zN) (zt (zQ 1 (y1 (ze (yk "read_part" (jx "ValueReader" mr) (zb 0) zg) zg))) (Cf mr))
def m_ValueReader_read_row (mr:Al):Al:=z6 1 2 (Cg mr)
def zqz (T:Txt w K mg) {k:Nat} (hk:3<=k) {mr:Al} (da:bP P w K mg base "ValueReader" "read_part" k mr):bP P w K mg base "ValueReader" "read_row" (k+1) (m_ValueReader_read_row mr):=T.m_ValueReader_read_row.ok (k:=k+0) zi1 λ_ _ _ _ _ _ _ hr=>by
 exact "v P 2 jzaL K m I t z F cznL t M v i1 cjA m J K t dzi1.nd v X 2 jzaL K m I t z czaZ azg6 W J K v czaZ jzfe K m I t z F"
 refine wo xE T.b_tuple rL ?_
 exact "m W t"
def zi4:aH ["self", "record", "last", "word"] ["self", "record", "last"] (zI BA):=by exact "#"
def Ci (mr:Al):Aj :=
  zt (jD (yk "pass_sign" iU (zb 0) (ze (As ":") zg))) (wJ (zb 1) (zb 3) (yk "read_part" (jx "ValueReader" mr) (zb 0) zg))
def Cj (mr:Al):Aj :=
  zt (zM (mB (zf pj (zb 3) (zb 2)))
  (bx "NoText")
  zN) (Ci mr)
def sZ (mr:Al):Aj :=
  zt (zQ 3 (yk "read_word" pI (zb 0) zg)) (Cj mr)
def m_ValueReader_read_entry (mr:Al):Al:=z6 3 4 (sZ mr)
def Lw (T:Txt w K mg) {k:Nat} (hk:3<=k) {mr:Al} (da:bP P w K mg base "ValueReader" "read_part" k mr):bP P w K mg base "ValueReader" "read_entry" (k+1) (m_ValueReader_read_entry mr):=T.m_ValueReader_read_entry.ok (k:=k+0) zi4 λ_ _ _ _ _ _ _ hr=>by
 exact "v i3 Nzi0 K dzi4.nd v P BzpP b3 7 z w M v czaZ jzfe K m I t z"
 refine Av ?_ ?_ ?_ ?_ ?_
 exact (zX hr)
 exact "W b3 J K"
 rfl
def zi8:aH ["self", "record"] ["self"] (zI BB):=by exact "#"
def Ck (mr:Al):Aj :=
  zt (oU (mB (yk "passes" wy (zb 0) (ze (As ",") zg)))
  (jD (yk "read_entry" (jx "ValueReader" (m_ValueReader_read_entry mr)) (zb 0) (ze (zb 1) (ze (zo mX (ze (zb 1) zg)) zg))))) (zt (jD (yk "pass_sign" iU (zb 0) (ze (As "}") zg))) (zF (zb 1)))
def Cm (mr:Al):Aj :=
  zt (jD (yk "read_entry" (jx "ValueReader" (m_ValueReader_read_entry mr)) (zb 0) (ze (zb 1) (ze (As "") zg)))) (Ck mr)
def s8 (mr:Al):Aj :=
  zt (zM (mB (yk "passes" wy (zb 0) (ze (As "}") zg)))
  (zF oX)
  zN) (zt (zQ 1 oX) (Cm mr))
def m_ValueReader_read_record (mr:Al):Al:=z6 1 2 (s8 mr)
def zqA (T:Txt w K mg) {k:Nat} (hk:3<=k) {mr:Al} (da:bP P w K mg base "ValueReader" "read_part" k mr):bP P w K mg base "ValueReader" "read_record" (k+2) (m_ValueReader_read_record mr):=T.m_ValueReader_read_record.ok (k:=k+1) zi8 λ_ _ _ _ _ _ _ hr=>by
 exact "v P 2 jzaL K m I t z F dzeI M v i1 dzeI dzi8.nd v czaZ S K m W m I t v X 2 jzaL K m I t z czaZ S K m W m"
 refine yj (Lf rfl) T.b_max J2 ?_
 exact "m W t t v czaZ jzfe K m I t z F W"
def zfh:aH ["self", "below", "figures"] ["self"] (zI BC):=by exact "#"
def Cn:Aj :=
  zt (zM (wF (mB (zf yf (zf z9 (zb 2) (Ar 0)) (As "0"))) (ju (mB (zb 1)) (mB (zf jS (zo yz (ze (zb 2) zg)) (Ar 1)))))
  (bx "NoText")
  zN) (zF (rj (mB (zb 1)) (yJ mD (zo lA (ze (zb 2) zg))) (zo lA (ze (zb 2) zg))))
def s9:Aj :=
  zt (zM (yT (mB (jI wm wm (Ar 1) (zo yz (ze (zb 2) zg)) (Ar 18))))
  (bx "NoText")
  zN) (Cn)
def Co:Aj :=
  zt (zQ 1 (yk "passes" wy (zb 0) (ze (As "-") zg))) (zt (zQ 2 (yk "run_of" pG (zb 0) (ze (As "0123456789") zg))) (s9))
def m_ValueReader_read_number:Al:=z6 1 3 (Co)
def L9 (T:Txt w K mg):bP P w K mg base "ValueReader" "read_number" 3 m_ValueReader_read_number:=T.m_ValueReader_read_number.ok (k:=2) zfh λ_ _ _ _ _ _ _ hr=>by
 exact "v i1 LzaL K m I t dzfh.nd v i2 LziY K m"
 exact (rJ T.c_FIGURES)
 exact "t dzfh.nd v P cj3 4zgR s p m 7 t"
 exact (rH T.c_MOST_FIGURES)
 exact "z w M v P cjJ azcd hyy n q 7 s o I czcc cjJ awX 2 W cwW BzaW p m 7 t s z w M z F gznK 2 W 9"
 refine wo Bl T.b_int rK ?_
 exact "m 7 t"
 refine wo Bl T.b_int rK ?_
 exact "m 7 t"
def tf (c:Str):Option (Al):=if c = "ValueReader" then some m_ValueReader_read_number else none
def zqC (T:Txt w K mg) {c:Str} {m:Al} (h:tf c=some m):bP P w K mg base c "read_number" 3 m:=by
 unfold tf at h
 by_cases e0:c = "ValueReader"
 ·rw [zj e0] at h;cases h;rw [e0];exact (L9 T).mono (by decide)
 rw [zx e0] at h
 cases h
def Cp:aH ["self"] ["self"] (zI BD):=by exact "#"
def tj (mr:Al):Aj :=
  zt (zM (mB (yk "passes" wy (zb 0) (ze (As "'") zg)))
  (zF (yk "read_word" pI (zb 0) zg))
  zN) (zt (zM (mB (yk "passes" wy (zb 0) (ze (As "[") zg)))
  (zF (yk "read_row" (jx "ValueReader" (m_ValueReader_read_row mr)) (zb 0) zg))
  zN) (zt (zM (mB (yk "passes" wy (zb 0) (ze (As "{") zg)))
  (zF (yk "read_record" (jx "ValueReader" (m_ValueReader_read_record mr)) (zb 0) zg))
  zN) (zF (yk "read_number" tf (zb 0) zg))))
def tm (mr:Al):Aj :=
  zt (w9 "begun" insOf (zb 0) (Ar 1)) (zt (zM (mB (zf jS (yJ (bo "begun" insOf excOf) (zb 0)) (Ar 60)))
  (bx "NoText")
  zN) (tj mr))
def m_ValueReader_read_part (mr:Al):Al:=z6 1 1 (tm mr)
def L_ (T:Txt w K mg) {k:Nat} (hk:3<=k) {mr:Al} (da:bP P w K mg base "ValueReader" "read_part" k mr):bP P w K mg base "ValueReader" "read_part" (k+3) (m_ValueReader_read_part mr):=T.m_ValueReader_read_part.ok (k:=k+2) Cp λ_ _ _ _ _ _ _ hr=>by
 exact "v"
 refine zdg T.d_begun ?_ ?_
 exact "K s v P BzaW ET.d_begun K"
 exact (rH T.c_MOST_PARTS)
 exact "z w M v P 2 jzaL K m I t z F Nzi0 K M v P 2 jzaL K m I t z F Vzqz K M v P 2 jzaL K m I t z F VzqA K M z F NzqC K"
def wz:Nat->Al
 |0=>z6 1 1 k8
 |n+1=>m_ValueReader_read_part (wz n)
theorem Cq (T:Txt w K mg):∀n,bP P w K mg base "ValueReader" "read_part" (3+1+3*n) (wz n)
 |0=>T.m_ValueReader_read_part.ok (k:=3) Cp λf aQ A outer s H E hr=>mQ
 |n+1=>(L_ T (by omega) (Cq T n)).mono (by omega)
def zfm:aH ["text", "reader", "value"] ["text"] (zI BE):=by exact "#"
def Cr:Aj :=
  zt (zM (mB (zf wH (yJ (bo "place" insOf excOf) (zb 1)) (zo yz (ze (zb 0) zg))))
  (bx "NoText")
  zN) (zF (zb 2))
def Cs:Aj :=
  zt (zQ 2 (yk "read_part" (jx "ValueReader" (wz 61)) (zb 1) zg)) (Cr)
def tD:Aj :=
  zt (zM (yT (mB (zo yv (ze (zb 0) (ze (mC (.ty "str")) zg)))))
  (bx "NoText")
  zN) (zt (zQ 1 (zo (gK "ValueReader" pE) (ze (zb 0) zg))) (Cs))
def iV:Al:=z6 1 3 (tD)
def zfo (T:Txt w K mg):bH P w K mg base "read_value" 188 iV:=T.f_read_value.ok (k:=187) zfm λ_ _ _ _ _ _ _ hr=>by
 exact "v P cj3 2 l m K m Q t z w M v i1"
 refine IJ (LL T) (hr.mono (by decide)) zE ?_
 exact "m K t dzfm.nd v i2"
 refine wI (λc m h=>pk (Cq T 61) h) ?_ (hr.mono (by decide)) zE
 exact "W dzfm.nd v P Bzch 8 W p m K t z w M z F 7"
def Ma:aH ["_law_e"] ["_law_e"] (zI BF):=by exact "#"
def Mb:Aj :=
  zt (zM (ju (mB (zo (jN isT) (ze (zb 0) (ze (mC (.fn "Twice")) zg)))) (mB (zo (jN isT) (ze (zb 0) (ze (mC (.fn "Unbound")) zg)))))
  (zF (mC (.bl false)))
  zN) (zt (zM (ju (mB (zo (jN isT) (ze (zb 0) (ze (mC (.fn "NoFunction")) zg)))) (mB (zo (jN isT) (ze (zb 0) (ze (mC (.fn "WrongCount")) zg)))))
  (zF (mC (.bl false)))
  zN) (zF (iF (zo (jN isT) (ze (zb 0) (ze (mC (.fn "ForeError")) zg))) (iF (zo (jN isT) (ze (zb 0) (ze (mC (.ty "ValueError")) zg))) (zo (jN isT) (ze (zb 0) (ze (mC (.fn "NoText")) zg)))))))
def pJ:Al:=z6 1 1 (Mb)
def Ly (T:Txt w K mg):sO P w K mg base "_law_only_no_text" 1 pJ:=T.f__law_only_no_text.okU (k:=0) Ma λf aQ A a outer s H =>
  by
 refine zw ?_ ?_
 refine zU ?_ ?_ ?_
 refine jJ ?_
 refine wX ?_ ?_
 refine yt ?_
 refine yj (iI T.is) T.b_isinstance y9 ?_
 refine zh ?_ ?_
 exact (zd 0)
 refine zh ?_ ?_
 exact (k9 T.a_Twice)
 exact zp
 refine wW ?_
 refine yt ?_
 refine yj (iI T.is) T.b_isinstance y9 ?_
 refine zh ?_ ?_
 exact (zd 0)
 refine zh ?_ ?_
 exact (k9 T.a_Unbound)
 exact zp
 refine zC ?_
 refine zL ?_
 exact jQ
 exact zT
 refine zw ?_ ?_
 refine zU ?_ ?_ ?_
 refine jJ ?_
 refine wX ?_ ?_
 refine yt ?_
 refine yj (iI T.is) T.b_isinstance y9 ?_
 refine zh ?_ ?_
 exact (zd 0)
 refine zh ?_ ?_
 exact (k9 T.a_NoFunction)
 exact zp
 refine wW ?_
 refine yt ?_
 refine yj (iI T.is) T.b_isinstance y9 ?_
 refine zh ?_ ?_
 exact (zd 0)
 refine zh ?_ ?_
 exact (k9 T.a_WrongCount)
 exact zp
 refine zC ?_
 refine zL ?_
 exact jQ
 exact zT
 refine zC ?_
 refine zL ?_
 refine zc3 ?_ ?_
 refine yj (iI T.is) T.b_isinstance y9 ?_
 refine zh ?_ ?_
 exact (zd 0)
 refine zh ?_ ?_
 exact (k9 T.a_ForeError)
 exact zp
 refine zc3 ?_ ?_
 refine yj (iI T.is) T.b_isinstance y9 ?_
 refine zh ?_ ?_
 exact (zd 0)
 refine zh ?_ ?_
 exact (jU T.b_ValueError Jn)
 exact zp
 refine zel ?_
 refine yj (iI T.is) T.b_isinstance y9 ?_
 refine zh ?_ ?_
 exact (zd 0)
 refine zh ?_ ?_
 exact (k9 T.a_NoText)
 exact zp
def Ct:aH ["_law_text_here", "_law_e"] ["_law_text_here"] (zI BG):=by exact "#"
def Mc:Aj :=
  zt (mT 1 zbc (eX iV (ze (zb 0) zg))
  (zF (zo pJ (ze (zb 1) zg)))) (zF (mC (.bl false)))
def mY:Al:=z6 1 2 (Mc)
def zjj (T:Txt w K mg):bH P w K mg base "_law_refused" 189 mY:=T.f__law_refused.ok (k:=188) Ct λ_ _ _ _ _ _ _ hr=>by
 exact "v"
 refine KY 1 T.sb_ForeError ?_ ?_ Ct.nd
 exact "5 m K t"
 intro _
 exact "z F Z m W t z F djQ"
def tE:aH ["_law_value_here", "_law_deep", "_law_word_here"] ["_law_value_here", "_law_deep"] (zI sQ):=by exact "#"
def mZ (mr:Al):Aj :=
  zt (zM (ju (mB (zo yv (ze (zb 0) (ze (mC (.ty "bool")) zg)))) (mB (zf jS (zb 1) (Ar 60))))
  (zF (mC (.bl false)))
  zN) (zt (zM (mB (zo yv (ze (zb 0) (ze (mC (.ty "int")) zg))))
  (zF (jI wH wH (yJ mD (zf jK (Ar 10) (Ar 18))) (zb 0) (zf jK (Ar 10) (Ar 18))))
  zN) (zt (zM (mB (zo yv (ze (zb 0) (ze (mC (.ty "str")) zg))))
  (zF (iF (jI wm wm (Ar 1) (zo yz (ze (zb 0) zg)) (Ar 8)) (zo iO (ze (yU (jE (zb 0)) (zf (jv false) (zb 0) (As "abcdefghijklmnopqrstuvwxyz"))) zg))))
  zN) (zt (zM (mB (zo yv (ze (zb 0) (ze (mC (.ty "tuple")) zg))))
  (zF (zo iO (ze (yU (jE (zb 0)) (zo mr (ze (zb 0) (ze (zf zB (zb 2) (Ar 1)) zg)))) zg)))
  zN) (zt (zM (yT (mB (zo yv (ze (zb 0) (ze (mC (.ty "dict")) zg)))))
  (zF (mC (.bl false)))
  zN) (zt (o8 (zb 0) (gN 2)
  (zt (zM (ju (yT (mB (zo yv (ze (zb 2) (ze (mC (.ty "str")) zg))))) (yT (mB (zo mr (ze (zb 2) (ze (Ar 0) zg))))))
  (zF (mC (.bl false)))
  zN)
  (zM (yT (mB (zo mr (ze (zf gT (zb 0) (zb 2)) (ze (zf zB (zb 1) (Ar 1)) zg)))))
  (zF (mC (.bl false)))
  zN))) (zF (mC (.bl true))))))))
def Cu (mr:Al):Al:=z6 2 3 (mZ mr)
def Md (T:Txt w K mg) {k:Nat} (hk:1<=k) {mr:Al} (da:bH P w K mg base "_law_is_value" k mr):bH P w K mg base "_law_is_value" (k+1) (Cu mr):=T.f__law_is_value.ok (k:=k+0) tE λ_ _ _ _ _ _ _ hr=>by
 exact "v P cjJ awX 2 l m K m"
 exact (jU T.b_bool Jl)
 exact "t cwW BzaW W s z F djQ M v P 2 l m K m"
 exact (jU T.b_int rK)
 exact "t z F"
 refine zgQ zch zch ?_ ?_ ?_
 exact "9 ewG s s K ewG s s M v P 2 l m K m Q t z F azc3 4zgQ s p m K t s czel T m u czaw K A RzeJ K I t M v P 2 l m K m 0 t z F T m u czaw K A rza5 m K m C 7 s t t M v P cj3 2 l m K m 3 t z F djQ M v Hzph K"
 exact (mG 2 tE.nd)
 exact "v P cjJ awX cj3 2 l m 7 m Q t cwW cj3 2 rzE m 7 m s t z F djQ M z P cj3 2 rzE m n"
 exact (Kj (zX hr))
 exact "K 7 o m C W s t z F djQ M z F djQ"
def wA:Nat->Al
 |0=>z6 2 3 k8
 |n+1=>Cu (wA n)
theorem zjl (T:Txt w K mg):∀n,bH P w K mg base "_law_is_value" (1+1+1*n) (wA n)
 |0=>T.f__law_is_value.ok (k:=1) tE λf aQ A outer s H E hr=>mQ
 |n+1=>(Md T (by omega) (zjl T n)).mono (by omega)
def Cw:aH ["_law_value_here"] ["_law_value_here"] (zI zdt):=by exact "#"
def m3 (mr:Al):Aj :=
  zt (zM (mB (zo yv (ze (zb 0) (ze (mC (.ty "tuple")) zg))))
  (zF (zf zB (Ar 1) (zo mM (ze (yU (jE (zb 0)) (zo mr (ze (zb 0) zg))) zg))))
  zN) (zt (zM (mB (zo yv (ze (zb 0) (ze (mC (.ty "dict")) zg))))
  (zF (zf zB (Ar 1) (zo mM (ze (ph (zb 0) (zo mr (ze (zb 0) zg))) zg))))
  zN) (zF (Ar 1)))
def Cy (mr:Al):Al:=z6 1 1 (m3 mr)
def Me (T:Txt w K mg) {k:Nat} (hk:1<=k) {mr:Al} (da:bH P w K mg base "_law_parts" k mr):bH P w K mg base "_law_parts" (k+1) (Cy mr):=T.f__law_parts.ok (k:=k+0) Cw λ_ _ _ _ _ _ _ hr=>by
 exact "v P 2 l m K m 0 t z F C s ! m kzdt czaw K A rza5 m K t t M v P 2 l m K m 3 t z F C s ! m"
 refine K2 (N:=["_law_value_here"]) rfl (by exact "$zdt") rfl (by decide +kernel) ?_ ?_
 exact "K A rza5 m K t t M z F s"
def fD:Nat->Al
 |0=>z6 1 1 k8
 |n+1=>Cy (fD n)
theorem zjo (T:Txt w K mg):∀n,bH P w K mg base "_law_parts" (1+1+1*n) (fD n)
 |0=>T.f__law_parts.ok (k:=1) Cw λf aQ A outer s H E hr=>mQ
 |n+1=>(Me T (by omega) (zjo T n)).mono (by omega)
def zfq:aH ["_law_text_here", "_law_found", "_law_e"] ["_law_text_here"] (zI BH):=by exact "#"
def Mf:Aj :=
  zt (zQ 1 (mC .non)) (zt (iS 1 2 zbc (eX iV (ze (zb 0) zg))
  (zF (zo pJ (ze (zb 2) zg)))) (zt (zM (ju (yT (mB (zo (wA 62) (ze (zb 1) (ze (Ar 0) zg))))) (mB (zf jS (zo (fD 62) (ze (zb 1) zg)) (Ar 60))))
  (zF (mC (.bl false)))
  zN) (zF (zf yf (zo (wL 61) (ze (zb 1) zg)) (zb 0)))))
def lD:Al:=z6 1 3 (Mf)
def zjp (T:Txt w K mg):bH P w K mg base "_law_fits" 189 lD:=T.f__law_fits.ok (k:=188) zfq λ_ _ _ _ _ _ _ hr=>by
 exact "v i1 dznC dzfq.nd v"
 refine Ll 1 2 T.sb_ForeError ?_ ?_ zfq.nd
 exact "5 m K t"
 intro _
 exact "z F Z m 7 t v P cjJ awX cj3 2 6zjl m W m s t cwW BzaW 6zjo m W t s z F djQ M z F Ryy D m W t K"
def zbT:aH ["_law_deck_here", "_law_text_here", "_law_signs", "_law_at", "_law_sign", "_law_way"] ["_law_deck_here", "_law_text_here"] (zI BI):=by exact "#"
def CA:Aj :=
  zt (zM (mB (zf yf (zb 5) (Ar 0)))
  (zF (zf zB (zf zB (jC (zb 1) bW (bA (zb 3))) (zb 4)) (jC (zb 1) (bA (zb 3)) bW)))
  zN) (zt (zM (mB (zf yf (zb 5) (Ar 1)))
  (zF (zf zB (zf zB (jC (zb 1) bW (bA (zb 3))) (zb 4)) (jC (zb 1) (bA (zf zB (zb 3) (Ar 1))) bW)))
  zN) (zF (zf zB (jC (zb 1) bW (bA (zb 3))) (jC (zb 1) (bA (zf j4 (zf zB (zb 3) (zb 5)) (Ar 1))) bW))))
def CB:Aj :=
  zt (zQ 2 (zf zB (zb 2) (As "abcdefghijklmnopqrstuvwxyz{|}~\n0123456789,,::[[]]{{}}''--"))) (zt (zQ 3 (zo yF (ze (zb 0) (ze (zf zB (zo yz (ze (zb 1) zg)) (Ar 1)) zg)))) (zt (zQ 4 (zf z9 (zb 2) (zo yF (ze (zb 0) (ze (zo yz (ze (zb 2) zg)) zg))))) (zt (zQ 5 (zo yF (ze (zb 0) (ze (Ar 4) zg)))) (CA))))
def tF:Aj :=
  zt (zQ 2 (As " !\"#$&'()*+,-./0123456789:;<=>?@ABCDEFGHIJKLMNOPQRSTUVWXYZ[\\]^_`")) (CB)
def pK:Al:=z6 2 6 (tF)
def zqK (T:Txt w K mg):bH P w K mg base "_law_changed" 2 pK:=T.f__law_changed.ok (k:=1) zbT λ_ _ _ _ _ _ _ hr=>by
 exact "v i2 I dzbT.nd v i2 C 7 I dzbT.nd v i3 fyQ m K m C p m W t s t dzbT.nd v i4 n q 7 fyQ m K m p m 7 t t o dzbT.nd v i5 fyQ m K m s t dzbT.nd v P hyy b5 s z F C C gwn W dw8 cjT b3 b4 gwn W cjT b3 dw8 M v P hyy b5 s z F C C gwn W dw8 cjT b3 b4 gwn W cjT C b3 s dw8 M z F C gwn W dw8 cjT b3 gwn W cjT ezat C b3 b5 s dw8"
def zbU:aH ["_law_script", "_law_deck_here", "_law_good", "_law_some", "_law_bad_here", "_law_turn"] ["_law_script"] (zI zdu):=by exact "#"
def Mg:Aj :=
  zt (zQ 1 (zo sS (ze (zb 0) zg))) (zt (zQ 2 (zo (wL 61) (ze (zo (jF 5) (ze (zb 1) (ze (Ar 3) zg))) zg))) (zt (zQ 3 (yU (bT (ze (Ar 3) zg)) (zo pD (ze (zb 2) zg)))) (zt (gO (jE (zb 3)) (gN 4)
  (zM (ju (yT (mB (zo mY (ze (zb 4) zg)))) (yT (mB (zo lD (ze (zb 2) zg)))))
  (zF (mC (.bl false)))
  zN)) (zt (gO (bT (ze (Ar 4) zg)) (gN 5)
  (zM (yT (mB (zo lD (ze (zo pK (ze (zb 1) (ze (zb 2) zg))) zg))))
  (zF (mC (.bl false)))
  zN)) (zF (iF (zo mY (ze (zf z9 (zb 3) (Ar 0)) zg)) (zf yf (zo (wL 61) (ze (zo iV (ze (zb 2) zg)) zg)) (zb 2))))))))
def CC:Al:=z6 1 6 (Mg)
def zqM (T:Txt w K mg) {f:Addr} {fd:FuncData} (F:cW K "law" "law" zdu f fd):bf P w K mg base (bU P w) 190 f fd ["_law_script"] (dZ K mg CC):=oW (k:=189) F zbU λaQ A outer s H E hr =>by
 exact "v i1 fzp2 m K t dzbU.nd v i2 D m 1 m W m s t t dzbU.nd v"
 refine AU 3 (M:=["_law_script", "_law_deck_here", "_law_good", "_law_some", "_law_bad_here", "~_law_turn"]) rfl (by exact "$zdu") (by exact ⟨rfl,by show ∀p∈List.zip (["_law_script", "_law_deck_here", "_law_good", "_law_some", "_law_bad_here", "~_law_turn"]:Ad) (["_law_script", "_law_deck_here", "_law_good", "_law_some", "_law_bad_here", "_law_turn"]:Ad),p.1=p.2\/p.1∉(_:Ad);decide +kernel⟩) (by decide +kernel) ?_ ?_ zbU.nd rfl (by exact "(") (by exact ")") (by rfl)
 exact "G m s t A"
 refine zS (LI T) (hr.mono (by decide)) za5 ?_
 exact "m 7 t v Hzdc czaw b3"
 exact (mG 4 zbU.nd)
 exact "z P cjJ awX cj3 2 fzjj m b4 t cwW cj3 2 fzjp m 7 t z F djQ M v Hzdc G m s t"
 exact (mG 5 zbU.nd)
 exact "z P cj3 2 fzjp m fzqK m W m 7 t t z F djQ M z F azc3 fzjj m n q b3 s o t czel Ryy D m fzfo m 7 t t 7"
end
def Mh (i j:Int) (h:0<j):jL i j=i%j:=by unfold jL;rw [zj h]
def Mj (i j:Int) (h:0<j):wY i j=i/j:=by unfold wY;rw [zj h]
inductive Tr where
 |num (i:Int)|word (z:Str)|row (ts:List Tr)|rec_ (ks:Ad) (ts:List Tr)
mutual
def sz:Tr->Nat
 |.num _=>1
 |.word _=>1
 |.row ts=>1+aM ts
 |.rec_ _ ts=>1+aM ts
def aM:List Tr->Nat
 |[]=>0
 |t::ts=>sz t+aM ts
end
mutual
def dp:Tr->Nat
 |.num _=>0
 |.word _=>0
 |.row ts=>1+cJ ts
 |.rec_ _ ts=>1+cJ ts
def cJ:List Tr->Nat
 |[]=>0
 |t::ts=>max (dp t) (cJ ts)
end
mutual
def TR (st:aj):Tr->PV->Prop
 |.num i,v=>v=.int i
 |.word z,v=>v=.str z/\z.length<=1000
 |.row ts,v=>∃xs,v=.tup xs/\aP st ts xs
 |.rec_ ks ts,v=>∃n xs,v=.ref n/\st[n]?=some (.dic ks xs)/\ks.Nodup/\ks.length=xs.length/\aP st ts xs/\∀k∈ks,k.length<=1000
def aP (st:aj):List Tr->List PV->Prop
 |[],xs=>xs=[]
 |t::ts,xs=>∃x r,xs=x::r/\TR st t x/\aP st ts r
end
def Dk (a b:aj):Prop:=∀(n:Nat) (ks:Ad) (xs:An),a[n]?=some (SO.dic ks xs)->b[n]?=some (SO.dic ks xs)
mutual
theorem TR.mono {a b:aj}(d:Dk a b):∀(t:Tr) {v:PV},TR a t v->TR b t v
 |.num _,_,h=>h
 |.word _,_,h=>h
 |.row ts,_,h=>by obtain ⟨xs,e,r⟩:=h;exact ⟨xs,e,aP.mono d ts r⟩
 |.rec_ ks ts,_,h=>by obtain ⟨n,xs,e,h1,h2,h3,r,h4⟩:=h;exact ⟨n,xs,e,d _ _ _ h1,h2,h3,aP.mono d ts r,h4⟩
theorem aP.mono {a b:aj}(d:Dk a b):∀(ts:List Tr) {xs:An},aP a ts xs->aP b ts xs
 |[],_,h=>h
 |t::ts,_,h=>by obtain ⟨x,r,e,h1,h2⟩:=h;exact ⟨x,r,e,TR.mono d t h1,aP.mono d ts h2⟩
end
theorem aP.len {st:aj}:∀{ts:List Tr}{xs:An},aP st ts xs->ts.length=xs.length
 |[],_,h=>by cases h;rfl
 |t::ts,_,h=>by obtain ⟨x,r,rfl,_,h2⟩:=h;simp [aP.len h2]
theorem aP.get {st:aj}:∀{ts:List Tr}{xs:An}{i:Nat}{x:PV},aP st ts xs->xs[i]?=some x->∃t,ts[i]?=some t/\TR st t x
 |[],_,_,_,h,e=>by cases h;simp at e
 |t::ts,_,0,x,h,e=>by obtain ⟨y,r,rfl,h1,_⟩:=h;simp at e;subst e;exact ⟨t,by simp,h1⟩
 |t::ts,_,i+1,x,h,e=>by obtain ⟨y,r,rfl,_,h2⟩:=h;simp at e;simpa using aP.get h2 e
theorem aP.append {st:aj}:∀{ts us:List Tr}{xs ys:An},aP st ts xs->aP st us ys->aP st (ts++us) (xs++ys)
 |[],_,_,_,h,h'=>by cases h;exact h'
 |t::ts,_,_,_,h,h'=>by obtain ⟨y,r,rfl,h1,h2⟩:=h;exact ⟨y,r++_,rfl,h1,aP.append h2 h'⟩
mutual
theorem wM:∀t:Tr,0<sz t
 |.num _=>by simp [sz]
 |.word _=>by simp [sz]
 |.row ts=>by simp only [sz];omega
 |.rec_ _ ts=>by simp only [sz];omega
end
mutual
theorem CD:∀t:Tr,dp t<=sz t
 |.num _=>by simp [sz,dp]
 |.word _=>by simp [sz,dp]
 |.row ts=>by have:=e9 ts;simp only [sz,dp];omega
 |.rec_ _ ts=>by have:=e9 ts;simp only [sz,dp];omega
theorem e9:∀ts:List Tr,cJ ts<=aM ts
 |[]=>by simp [aM,cJ]
 |t::ts=>by have:=CD t;have:=e9 ts;simp only [aM,cJ];omega
end
theorem fE:∀{ts:List Tr}{t:Tr},t∈ts->sz t<=aM ts
 |u::ts,t,h=>by
  rcases yn.mp h with rfl|h
  ·simp only [aM];omega
  ·have:=fE h;simp only [aM];omega
theorem j9:∀{ts:List Tr}{t:Tr},t∈ts->dp t<=cJ ts
 |u::ts,t,h=>by
  rcases yn.mp h with rfl|h
  ·simp only [cJ];omega
  ·have:=j9 h;simp only [cJ];omega
def ty:Tr->String
 |.num _ => "int"
 |.word _ => "str"
 |.row _ => "tuple"
 |.rec_ _ _ => "dict"
abbrev abc:Str := "abcdefghijklmnopqrstuvwxyz"
def a9 (z:Str):Bool:=decide (1<=z.length)&&decide (z.length<=8)&&z.cps.toList.all λc=>decide (c∈abc.cps.toList)
def Ml {st:aj}{t:Tr}{v:PV}(h:TR st t v) (n:String):yv [v,.ty n] st=cy (bG (ty t) n) st:=by
 cases t with
 |num i=>cases h;rfl
 |word z=>obtain ⟨rfl,_⟩:=h;rfl
 |row ts=>obtain ⟨xs,rfl,_⟩:=h;rfl
 |rec_ ks ts =>
  obtain ⟨m,xs,rfl,hm,_⟩:=h
  have e:tyP st (.ref m)=some "dict" := by show pz st[m]?=_;rw [hm];rfl
  simp only [yv,e,ty]
def t1:bG "int" "str" = some false:=rfl
def t2:bG "int" "tuple" = some false:=rfl
def t3:bG "int" "dict" = some false:=rfl
def t4:bG "int" "int" = some true:=rfl
def t5:bG "str" "str" = some true:=rfl
def t6:bG "str" "tuple" = some false:=rfl
def t7:bG "str" "dict" = some false:=rfl
def t8:bG "str" "int" = some false:=rfl
def t9:bG "tuple" "str" = some false:=rfl
def CF:bG "tuple" "tuple" = some true:=rfl
def Mm:bG "tuple" "int" = some false:=rfl
def Mn:bG "dict" "str" = some false:=rfl
def CG:bG "dict" "tuple" = some false:=rfl
def CH:bG "dict" "dict" = some true:=rfl
def Mp:bG "dict" "int" = some false:=rfl
def Mq:bG "int" "bool" = some false:=rfl
def Mr:bG "str" "bool" = some false:=rfl
def Ms:bG "tuple" "bool" = some false:=rfl
def Mt:bG "dict" "bool" = some false:=rfl
theorem iW:∀ts:List Tr,ts.length<=aM ts
 |[]=>by simp [aM]
 |t::ts=>by have:=wM t;have:=iW ts;simp only [aM,yA];omega
def Old (a b:aj):Prop:=∀(n:Nat) so,a[n]?=some so->b[n]?=some so
def Old.refl (a:aj):Old a a:=λ_ _ e=>e
def Old.trans {a b c:aj}(h:Old a b) (h':Old b c):Old a c:=λn so e=>h' n so (h n so e)
def Old.dk {a b:aj}(h:Old a b):Dk a b:=λn ks xs e=>h n _ e
def Mu {a b:aj}(h:Pre a b):Old a b:=λn so e=>h.get e
def yp (a d:aj):Old a (a++d):=Mu (Pre.of a d)
def Ob (r:Nat) (a b:aj):Prop:=∀(n:Nat) so,n≠r->a[n]?=some so->b[n]?=some so
def Ob.trans {r:Nat}{a b c:aj}(h:Ob r a b) (h':Ob r b c):Ob r a c:=λn so ne e=>h' n so ne (h n so ne e)
def CI {r:Nat}{a b:aj}(h:Old a b):Ob r a b:=λn so _ e=>h n so e
def CJ (r:Nat) (a:aj) (so:SO):Ob r a (a.set r so):=λn s ne e=>by rw [yI (y0 ne)];exact e
mutual
theorem TR.one {st:aj}:∀(t t':Tr) {v:PV},TR st t v->TR st t' v->t=t'
 |.num i,t',v,h,h'=>by
  cases h
  cases t' with
  |num j=>cases h';rfl
  |word z=>obtain ⟨e,_⟩:=h';cases e
  |row ts=>obtain ⟨_,e,_⟩:=h';cases e
  |rec_ ks ts=>obtain ⟨_,_,e,_⟩:=h';cases e
 |.word z,t',v,h,h'=>by
  obtain ⟨rfl,_⟩:=h
  cases t' with
  |num j=>cases h'
  |word z=>obtain ⟨e,_⟩:=h';cases e;rfl
  |row ts=>obtain ⟨_,e,_⟩:=h';cases e
  |rec_ ks ts=>obtain ⟨_,_,e,_⟩:=h';cases e
 |.row ts,t',v,h,h'=>by
  obtain ⟨xs,rfl,r⟩:=h
  cases t' with
  |num j=>cases h'
  |word z=>obtain ⟨e,_⟩:=h';cases e
  |row us=>obtain ⟨_,e,r'⟩:=h';cases e;rw [aP.one ts us r r']
  |rec_ ks ts=>obtain ⟨_,_,e,_⟩:=h';cases e
 |.rec_ ks ts,t',v,h,h'=>by
  obtain ⟨n,xs,rfl,g,_,_,r,_⟩:=h
  cases t' with
  |num j=>cases h'
  |word z=>obtain ⟨e,_⟩:=h';cases e
  |row us=>obtain ⟨_,e,r'⟩:=h';cases e
  |rec_ dz us =>
   obtain ⟨_,_,e,g',_,_,r',_⟩:=h'
   cases e
   rw [g] at g'
   cases g'
   rw [aP.one ts us r r']
theorem aP.one {st:aj}:∀(ts us:List Tr) {xs:An},aP st ts xs->aP st us xs->ts=us
 |[],us,xs,h,h'=>by
  cases h
  cases us with
  |nil=>rfl
  |cons=>obtain ⟨_,_,e,_⟩:=h';cases e
 |t::ts,us,xs,h,h'=>by
  obtain ⟨x,r,rfl,h1,h2⟩:=h
  cases us with
  |nil=>cases h'
  |cons u us =>
   obtain ⟨_,_,e,g1,g2⟩:=h'
   cases e
   rw [TR.one t u h1 g1,aP.one ts us h2 g2]
end
theorem CK {g:PV->za->Option za}{body:Aj}(I:Nat->za->aj->Prop) (n:Nat) (hb:∀i e st,i<n->I i e st->∃e1 e2 aK,g (.int i) e=some e1/\body e1 st=.ok (.nx e2) aK/\I (i+1) e2 aK) :
  ∀(k i:Nat) (env:za) (st:aj),i+k=n->I i env st->∃cI aR,forL g body ((List.range' i k).map λi:Nat=>PV.int i) env st=.ok (.nx cI) aR/\I n cI aR
 |0,i,env,st,hk,h=>⟨env,st,by simp,by rw [<-hk];exact h⟩
 |k+1,i,env,st,hk,h=>by
  obtain ⟨e1,e2,aK,q1,q2,q3⟩:=hb i env st (by omega) h
  obtain ⟨cI,aR,r1,r2⟩:=CK I n hb k (i+1) e2 aK (by omega) q3
  refine ⟨cI,aR,?_,r2⟩
  rw [List.range'_succ,yi]
  unfold forL
  rw [q1]
  simp only
  rw [q2]
  simp only [zA]
  exact r1
def Mv (m:Nat) (st:aj) (h:m<=1000):iJ [.int (m:Int)] st=.ok (.im ((List.range' 0 m).map λi:Nat=>PV.int i)) st:=by
 have hr:cR (m:Int)=true:=by simp [cR];omega
 simp [hr,nums,List.range_eq_range']
def eJ (i:Int) (j:Nat) (h:0<j):∃b:Nat,b<j/\jL i j=b:=by
 have h1:=Int.emod_nonneg i (show (j:Int)≠0 by omega)
 have h2:=Int.emod_lt_of_pos i (show (0:Int)<j by omega)
 exact ⟨(i%j).toNat,by omega,by rw [Mh _ _ (by omega)];omega⟩
theorem tG {st:aj}{z:Str}:∀{ks:Ad}{ts:List Tr}{xs:An}{t:Tr},aP st ts xs->(ks.zip ts).lookup z=some t->∃y,(ks.zip xs).lookup z=some y/\TR st t y
 |[],_,_,_,_,h=>by simp at h
 |_::_,[],_,_,_,h=>by simp at h
 |k::ks,u::ts,xs,t,r,h=>by
  obtain ⟨y,eZ,rfl,r1,r2⟩:=r
  rw [List.zip_cons_cons,wU] at h ⊢
  cases hz:(z==k) with
  |true =>
   rw [hz] at h
   cases h
   exact ⟨y,rfl,r1⟩
  |false =>
   rw [hz] at h
   exact tG r2 h
theorem CL {U:Type}{z:Str}:∀{ks:Ad}{us:List U},ks.length=us.length->z∈ks->∃u,(ks.zip us).lookup z=some u
 |[],_,_,h=>by cases h
 |_::_,[],h,_=>by simp at h
 |k::ks,u::us,hl,h=>by
  rw [List.zip_cons_cons,wU]
  cases hz:(z==k) with
  |true=>exact ⟨u,rfl⟩
  |false =>
   rcases yn.mp h with e|e
   ·simp [e] at hz
   ·exact CL (by simpa using hl) e
def yr {st:aj}{n:Nat}{so:SO}(h:st[n]?=some so):n<st.length:=(yN.mp h).1
theorem CM {z:Str}{u:Tr}:∀{ks:Ad}{ts:List Tr},(ks.zip ts).lookup z=some u->u∈ts
 |[],_,h=>by simp at h
 |_::_,[],h=>by simp at h
 |k::ks,t::ts,h=>by
  rw [List.zip_cons_cons,wU] at h
  cases hz:(z==k) with
  |true=>rw [hz] at h;cases h;exact zY ..
  |false=>rw [hz] at h;exact yd _ (CM h)
theorem iX {fe:Ai}{env:za}(xs:An) (I:Nat->List PV->aj->Prop) (step:∀i x ys st,xs[i]?=some x->I i ys st->∃y au,fe (some x::env) st=.ok y au/\I (i+1) (ys++[y]) au) :
  ∀(k i:Nat) (ys:An) (st:aj),i+k=xs.length->I i ys st->∃a8 aR,cT fe env (xs.drop i) ys st=.ok (.ref aR.length) (aR++[.lst a8])/\I xs.length a8 aR
 |0,i,ys,st,hk,h=>⟨ys,st,by rw [kJ (by omega)];rfl,by rw [<-hk];exact h⟩
 |k+1,i,ys,st,hk,h=>by
  have hx:xs[i]?=some (xs[i]'(by omega)):=yc (by omega)
  obtain ⟨y,au,e,h1⟩:=step i _ ys st hx h
  obtain ⟨a8,aR,r,h2⟩:=iX xs I step k (i+1) (ys++[y]) au (by omega) h1
  refine ⟨a8,aR,?_,h2⟩
  rw [fJ (by omega)]
  unfold cT
  rw [e]
  simp only [iL,zA]
  exact r
theorem tH {fe:Ai}{env:za}{n:Nat}(xs:An) (I:Nat->List PV->aj->Prop) (at_:∀i ys st,I i ys st->st[n]?=some (.lst xs)) (step:∀i x ys st,xs[i]?=some x->I i ys st->∃y au,fe (some x::env) st=.ok y au/\I (i+1) (ys++[y]) au) :
  ∀(k i m:Nat) (ys:An) (st:aj),i+k=xs.length->k<m->I i ys st->∃a8 aR,dy fe env n m i ys st=.ok (.ref aR.length) (aR++[.lst a8])/\I xs.length a8 aR
 |0,i,m,ys,st,hk,hm,h=>by
  obtain ⟨m,rfl⟩:∃j,m=j+1:=⟨m-1,by omega⟩
  refine ⟨ys,st,?_,by rw [<-hk];exact h⟩
  unfold dy
  rw [yH (at_ _ _ _ h),List.getElem?_eq_none (by omega)]
 |k+1,i,m,ys,st,hk,hm,h=>by
  obtain ⟨m,rfl⟩:∃j,m=j+1:=⟨m-1,by omega⟩
  have hx:xs[i]?=some (xs[i]'(by omega)):=yc (by omega)
  obtain ⟨y,au,e,h1⟩:=step i _ ys st hx h
  obtain ⟨a8,aR,r,h2⟩:=tH xs I at_ step k (i+1) m (ys++[y]) au (by omega) (by omega) h1
  refine ⟨a8,aR,?_,h2⟩
  unfold dy
  rw [yH (at_ _ _ _ h),hx]
  simp only
  rw [e]
  simp only [iL,zA]
  exact r
inductive Sm:Tr->Tr->Prop
 |num (i:Int):Sm (.num i) (.num i)
 |word (z:Str):Sm (.word z) (.word z)
 |row {ts us:List Tr}:ts.length=us.length->(∀(i:Nat) t u,ts[i]?=some t->us[i]?=some u->Sm t u)->Sm (.row ts) (.row us)
 |rec_ {ks dz:Ad} (f g:Str->Tr):ks.Nodup->ks.Perm dz->(∀k∈ks,Sm (f k) (g k))->Sm (.rec_ ks (ks.map f)) (.rec_ dz (dz.map g))
theorem tI {k:Str}{U:Type}{f:Str->U}:∀{ks:Ad},k∈ks->(ks.zip (ks.map f)).lookup k=some (f k)
 |z::ks,h=>by
  rw [yi,List.zip_cons_cons,wU]
  by_cases e:k=z
  ·subst e;simp
  ·rw [show (k==z)=false by simpa using e]
   exact tI (by simpa [e] using h)
theorem iY {m:Nat}:∀{ts:List Tr},(∀t∈ts,dp t<=m)->cJ ts<=m
 |[],_=>by simp [cJ]
 |t::ts,h=>by have:=h t (zY ..);have:=iY (ts:=ts) λu hu=>h u (yd _ hu);simp only [cJ];omega
theorem Sm.dp {t u:Tr}(h:Sm t u):FK22.dp t=FK22.dp u:=by
 induction h with
 |num=>rfl
 |word=>rfl
 |@row ts us hl _ ih =>
  have a:cJ ts<=cJ us:=iY λt ht=>by
   obtain ⟨i,hi,e⟩:=nK ht
   have:=ih i t (us[i]'(by omega)) (by rw [yc hi,e]) (yc (by omega))
   have:=j9 (lS (l:=us) (n:=i) (by omega))
   omega
  have b:cJ us<=cJ ts:=iY λt ht=>by
   obtain ⟨i,hi,e⟩:=nK ht
   have:=ih i (ts[i]'(by omega)) t (yc (by omega)) (by rw [yc hi,e])
   have:=j9 (lS (l:=ts) (n:=i) (by omega))
   omega
  simp only [FK22.dp];omega
 |@rec_ ks dz f g nd pm _ ih =>
  have a:cJ (ks.map f)<=cJ (dz.map g):=iY λt ht=>by
   obtain ⟨k,hk,rfl⟩:=j1.mp ht
   have:=ih k hk
   have:=j9 (List.mem_map_of_mem (f:=g) (pm.mem_iff.mp hk))
   omega
  have b:cJ (dz.map g)<=cJ (ks.map f):=iY λt ht=>by
   obtain ⟨k,hk,rfl⟩:=j1.mp ht
   have:=ih k (pm.mem_iff.mpr hk)
   have:=j9 (List.mem_map_of_mem (f:=f) (pm.mem_iff.mpr hk))
   omega
  simp only [FK22.dp];omega
def m5 (n:Nat):(List.replicate n true).all id=true:=by induction n with|zero=>rfl|succ n ih=>simp
mutual
def gd:Tr->Prop
 |.num i => -1000000000000000000<i/\i<1000000000000000000
 |.word z=>a9 z=true
 |.row ts=>lE ts
 |.rec_ ks ts=>ks.Nodup/\ks.length=ts.length/\(∀k∈ks,a9 k=true)/\lE ts
def lE:List Tr->Prop
 |[]=>True
 |t::ts=>gd t/\lE ts
end
theorem jO:∀{ts:List Tr},lE ts↔∀t∈ts,gd t
 |[]=>by simp [lE]
 |t::ts=>by simp [lE,jO (ts:=ts)]
mutual
def od (so:List Str->Ad):Tr->Tr
 |.num i=>.num i
 |.word z=>.word z
 |.row ts=>.row (iZ so ts)
 |.rec_ ks ts=>.rec_ (so ks) ((so ks).map λk=>((ks.zip (iZ so ts)).lookup k).getD (.num 0))
def iZ (so:List Str->Ad):List Tr->List Tr
 |[]=>[]
 |t::ts=>od so t::iZ so ts
end
theorem wa {so:List Str->Ad}:∀ts:List Tr,iZ so ts=ts.map (od so)
 |[]=>rfl
 |t::ts=>by simp [iZ,wa ts]
def wN {so:List Str->Ad}{ks:Ad}{f:Str->Tr}(h:∀k∈so ks,k∈ks):od so (.rec_ ks (ks.map f))=.rec_ (so ks) ((so ks).map λk=>od so (f k)):=by
 simp only [od,wa,List.map_map]
 congr 1
 refine List.map_congr_left λk hk=>?_
 rw [tI (h k hk)];rfl
theorem m6:∀{ks:Ad}{ts:List Tr},ks.Nodup->ks.length=ts.length->∃f:Str->Tr,ts=ks.map f
 |[],[],_,_=>⟨λ_=>.num 0,rfl⟩
 |[],_::_,_,h=>by simp at h
 |_::_,[],_,h=>by simp at h
 |k::ks,t::ts,nd,h=>by
  rw [wC] at nd
  obtain ⟨f,e⟩:=m6 (ks:=ks) (ts:=ts) nd.2 (by simpa using h)
  refine ⟨λz=>if z=k then t else f z,?_⟩
  rw [yi,zj rfl,e]
  congr 1
  exact List.map_congr_left λz hz=>by rw [zx];exact λe=>nd.1 (e▸hz)
def Mw {P:Tr->Prop}(hn:∀i,gd (.num i)->P (.num i)) (hw:∀z,a9 z=true->P (.word z)) (hr:∀ts,(∀t∈ts,gd t)->(∀t∈ts,P t)->P (.row ts))
  (hf:∀ks f,ks.Nodup->(∀k∈ks,a9 k=true)->(∀k∈ks,gd (f k))->(∀k∈ks,P (f k))->P (.rec_ ks (ks.map f))):∀(n:Nat) (t:Tr),sz t<=n->gd t->P t:=by
 intro n
 induction n with
 |zero=>intro t h;have:=wM t;omega
 |succ n ih =>
  intro t h g
  cases t with
  |num i=>exact hn i g
  |word z=>exact hw z g
  |row ts =>
   simp only [sz] at h
   have g':=jO.mp g
   exact hr ts g' λu hu=>ih u (by have:=fE hu;omega) (g' u hu)
  |rec_ ks ts =>
   simp only [sz] at h
   obtain ⟨nd,hl,hk,g1⟩:=g
   obtain ⟨f,rfl⟩:=m6 nd hl
   have g':=jO.mp g1
   exact hf ks f nd hk (λk hk=>g' _ (List.mem_map_of_mem hk)) λk hk=>ih (f k) (by have:=fE (List.mem_map_of_mem (f:=f) hk);omega) (g' _ (List.mem_map_of_mem hk))
def fF {P:Tr->Prop}(hn:∀i,gd (.num i)->P (.num i)) (hw:∀z,a9 z=true->P (.word z)) (hr:∀ts,(∀t∈ts,gd t)->(∀t∈ts,P t)->P (.row ts))
  (hf:∀ks f,ks.Nodup->(∀k∈ks,a9 k=true)->(∀k∈ks,gd (f k))->(∀k∈ks,P (f k))->P (.rec_ ks (ks.map f))) {t:Tr} (g:gd t):P t:=Mw hn hw hr hf (sz t) t (z0 _) g
abbrev Pm (so:List Str->Ad):Prop:=∀ks,(so ks).Perm ks
def CN:Pm id:=λks=>.refl ks
def yu:Pm aL:=λks=>List.mergeSort_perm ks cf
def rv (ks:Ad):Ad:=(aL ks).reverse
def Pm.sub {so:List Str->Ad}(h:Pm so) (ks:Ad):∀k∈so ks,k∈ks:=λk hk=>(h ks).mem_iff.mp hk
def Mx {ks ls:Ad}(h:ks.Perm ls):aL ks=aL ls :=
 List.Perm.eq_of_pairwise (le:=λa b=>cf a b=true) (λa b _ _ h h'=>sE h h') (List.pairwise_mergeSort lB mV ks) (List.pairwise_mergeSort lB mV ls) ((yu ks).trans (h.trans (yu ls).symm))
def My {so fy:List Str->Ad}(h:Pm so) (h':Pm fy) {t:Tr}(g:gd t):Sm (od so t) (od fy t):=by
 refine fF (P:=λt=>Sm (od so t) (od fy t)) (λi _=>.num i) (λz _=>.word z) (λts _ ih=>?_) (λks f nd _ _ ih=>?_) g
 ·simp only [od,wa]
  refine .row (by simp) λi a b ha hb=>?_
  rw [y7] at ha hb
  cases e:ts[i]? with
  |none=>rw [e] at ha;cases ha
  |some c =>
   rw [e] at ha hb
   cases ha;cases hb
   exact ih c (jy e)
 ·rw [wN (h.sub ks),wN (h'.sub ks)]
  exact .rec_ _ _ ((h ks).nodup_iff.mpr nd) ((h ks).trans (h' ks).symm) λk hk=>ih k (h.sub ks k hk)
def Mz {t:Tr}(g:gd t):od id t=t:=by
 refine fF (P:=λt=>od id t=t) (λi _=>rfl) (λz _=>rfl) (λts _ ih=>?_) (λks f nd _ _ ih=>?_) g
 ·simp only [od,wa]
  congr 1
  exact (List.map_congr_left ih).trans (List.map_id' ts)
 ·rw [wN (CN.sub ks)]
  exact congrArg (Tr.rec_ ks) (List.map_congr_left ih)
def MB {so:List Str->Ad}(h:Pm so) {t:Tr}(g:gd t):Sm t (od so t):=by have:=My CN h g;rwa [Mz g] at this
def MC {so:List Str->Ad}(h:Pm so) {t:Tr}(g:gd t):dp (od so t)=dp t:=(MB h g).dp.symm
def pL {ts us:List Tr}(h:ts.Perm us):aM ts=aM us:=by
 induction h with
 |nil=>rfl
 |cons x _ ih=>simp only [aM,ih]
 |swap x y l=>simp only [aM];omega
 |trans _ _ a b=>omega
theorem tJ {f g:U->Tr}:∀{l:List U},(∀x∈l,sz (f x)=sz (g x))->aM (l.map f)=aM (l.map g)
 |[],_=>rfl
 |x::l,h=>by simp only [yi,aM,h x (zY ..),tJ (l:=l) λy hy=>h y (yd _ hy)]
def CO {so:List Str->Ad}(h:Pm so) {t:Tr}(g:gd t):sz (od so t)=sz t:=by
 refine fF (P:=λt=>sz (od so t)=sz t) (λi _=>rfl) (λz _=>rfl) (λts _ ih=>?_) (λks f nd _ _ ih=>?_) g
 ·simp only [od,wa,sz]
  have:=tJ (f:=od so) (g:=id) (l:=ts) ih
  rw [List.map_id] at this
  omega
 ·rw [wN (h.sub ks)]
  simp only [sz]
  rw [pL ((h ks).map _),tJ ih]
def tK {so:List Str->Ad}(h:Pm so) {t:Tr}(g:gd t):gd (od so t):=by
 refine fF (P:=λt=>gd (od so t)) (λi g=>g) (λz g=>g) (λts _ ih=>?_) (λks f nd hk _ ih=>?_) g
 ·simp only [od,wa]
  exact jO.mpr λu hu=>by obtain ⟨c,hc,rfl⟩:=j1.mp hu;exact ih c hc
 ·rw [wN (h.sub ks)]
  exact ⟨(h ks).nodup_iff.mpr nd,by simp,λk mU=>hk k (h.sub ks k mU),jO.mpr λu hu=>by obtain ⟨c,hc,rfl⟩:=j1.mp hu;exact ih c (h.sub ks c hc)⟩
abbrev cn:Tr->Tr:=od aL
def MD {so:List Str->Ad}(h:Pm so) {t:Tr}(g:gd t):cn (od so t)=cn t:=by
 refine fF (P:=λt=>cn (od so t)=cn t) (λi _=>rfl) (λz _=>rfl) (λts _ ih=>?_) (λks f nd _ _ ih=>?_) g
 ·simp only [od,wa,List.map_map]
  congr 1
  exact List.map_congr_left ih
 ·rw [wN (h.sub ks),cn,wN (yu.sub _),wN (yu.sub _),Mx (h ks)]
  congr 1
  exact List.map_congr_left λk hk=>ih k (yu.sub ks k hk)
def lF {m:Nat}(h:10<=m):Nat.toDigits 10 m=Nat.toDigits 10 (m/10)++[Nat.digitChar (m%10)]:=by
 have hm:m%10<10:=Nat.mod_lt m (by decide)
 have glue:=Nat.toDigits_append_toDigits (b:=10) (n:=m/10) (d:=m%10) (by decide) (by omega) hm
 rw [Nat.div_add_mod,Nat.toDigits_of_lt_base hm] at glue
 exact glue.symm
theorem tL:∀(k m:Nat),m<10 ^ (k+1)->(Nat.toDigits 10 m).length<=k+1
 |0,m,h=>by
  rw [Nat.toDigits_of_lt_base (by omega)]
  exact z0 _
 |k+1,m,h=>by
  by_cases hm:m<10
  ·rw [Nat.toDigits_of_lt_base hm]
   show 1<=_
   omega
  ·rw [lF (by omega),jc,qk]
   have e:10 ^ (k+1+1)=10 ^ (k+1)*10:=Nat.pow_succ ..
   have:=tL k (m/10) (by omega)
   omega
def MF (m:Nat):Nat.toDigits 10 m≠[]:=by
 by_cases hm:m<10
 ·rw [Nat.toDigits_of_lt_base hm]
  exact List.cons_ne_nil _ _
 ·rw [lF (by omega)]
  simp
def MH:∀(m:Nat),0<m->∃c r,Nat.toDigits 10 m=c::r/\c.toNat≠48:=by
 intro m
 induction m using Nat.strongRecOn with
 |_ m ih =>
  intro h
  by_cases hm:m<10
  ·rw [Nat.toDigits_of_lt_base hm]
   refine ⟨_,_,rfl,?_⟩
   have:∀d:Nat,d<10->0<d->(Nat.digitChar d).toNat≠48:=by decide
   exact this m hm h
  ·obtain ⟨c,r,e,n⟩:=ih (m/10) (by omega) (by omega)
   rw [lF (by omega),e]
   exact ⟨c,r++[Nat.digitChar (m%10)],rfl,n⟩
def dg (m:Nat):List Nat:=(Nat.toDigits 10 m).map Char.toNat
def MJ (m:Nat):∀c∈Nat.toDigits 10 m,48<=c.toNat/\c.toNat<=57:=by
 induction m using Nat.strongRecOn with
 |_ m ih =>
  by_cases hm:m<10
  ·rw [Nat.toDigits_of_lt_base hm]
   intro c hc
   have e:c=Nat.digitChar m:=by simpa using hc
   subst e
   have:∀d:Nat,d<10->48<=(Nat.digitChar d).toNat/\(Nat.digitChar d).toNat<=57:=by decide
   exact this m hm
  ·rw [lF (by omega)]
   intro c hc
   rcases j2.mp hc with q|q
   ·exact ih (m/10) (by omega) c q
   ·have e:c=Nat.digitChar (m%10):=by simpa using q
    subst e
    have:∀d:Nat,d<10->48<=(Nat.digitChar d).toNat/\(Nat.digitChar d).toNat<=57:=by decide
    exact this (m%10) (Nat.mod_lt m (by decide))
def lG (m:Nat):∀c∈dg m,48<=c/\c<=57:=λc hc=>by
 obtain ⟨d,hd,e⟩:=j1.mp hc
 rw [<-e]
 exact MJ m d hd
def i6 (m:Nat):1<=(dg m).length:=by
 unfold dg
 rw [yX]
 have:=MF m
 cases e:Nat.toDigits 10 m with
 |nil=>exact absurd e this
 |cons a b=>simp
def m7 {m:Nat}(h:m<10 ^ 18):(dg m).length<=18:=by
 unfold dg
 rw [yX]
 exact tL 17 m h
def pM:dg 0=[48]:=by decide
def pN {m:Nat}(h:0<m):∃c r,dg m=c::r/\c≠48:=by
 obtain ⟨c,r,e,n⟩:=MH m h
 exact ⟨c.toNat,r.map Char.toNat,by unfold dg;rw [e];rfl,n⟩
def sgn (n:Int):List Nat:=if n<0 then 45::dg n.natAbs else dg n.natAbs
def MK (s:String):(Str.ofString s).cps.toList=s.toList.map Char.toNat:=by
 simp only [Str.ofString_eq_toList,List.toList_toArray]
def ML (n:Int):(Str.ofString (toString n)).cps.toList=sgn n:=by
 rw [MK]
 unfold sgn
 cases n with
 |ofNat m =>
  rw [zx (show ¬(Int.ofNat m<0) from Int.not_lt.mpr (Int.natCast_nonneg m))]
  show (Nat.repr m).toList.map Char.toNat=dg m
  rw [Nat.toList_repr]
  rfl
 |negSucc m =>
  rw [zj (by omega)]
  show ("-" ++ Nat.repr (m+1)).toList.map Char.toNat=45::dg (m+1)
  rw [String.toList_append,Nat.toList_repr]
  rfl
def MM {m:Nat}(h:m<10 ^ 18):PySem.intText? (⟨(dg m).toArray⟩:Str)=some (m:Int):=by
 have hl:(⟨(dg m).toArray⟩:Str).length=(dg m).length:=by show (dg m).toArray.size=_;rw [yO]
 have hc:(⟨(dg m).toArray⟩:Str).cps.toList=dg m:=List.toList_toArray
 have Pr:=m7 h
 have e:=PySem.intText_digits (x:=(⟨(dg m).toArray⟩:Str)) (by rw [hc];exact λc eh=>lG m c eh) (by
  rw [hc]
  intro z
  have:=i6 m
  rw [z] at this
  exact absurd this (by decide)) (by rw [hl];omega)
 rw [hc] at e
 rw [e]
 exact congrArg (λk:Nat=>some (k:Int)) (PySem.W.KIN.val_back m)
abbrev S (l:List Nat):Str:=⟨l.toArray⟩
def jZ (z:Str):S z.cps.toList=z:=by cases z;simp [S]
def yR (l:List Nat):(S l).length=l.length:=by show l.toArray.size=_;simp
def wO (a b:List Nat):S a++S b=S (a++b):=by
 rw [<-jZ (S a++S b),PySem.Str.cps_append]
 congr 1
 simp [S]
def MN (z:Str) (b:List Nat):z++S b=S (z.cps.toList++b):=by rw [<-wO,jZ]
def jt:List (List Nat)->List Nat
 |[]=>[]
 |x::xs=>44::(x++jt xs)
def jn:List (List Nat)->List Nat
 |[]=>[]
 |x::xs=>x++jt xs
def MP (ls:List (List Nat)):PySem.Txt.join ("," : Str) (ls.map S)=S (jn ls):=by
 show PySem.Builtin.Str.glued ("," : Str) (ls.map S)=_
 rw [PySem.StrLaws.glued_eq_join]
 have e0:("," : Str)=S [44]:=by decide +kernel
 rw [e0]
 induction ls with
 |nil=>rfl
 |cons c r ih =>
  cases r with
  |nil=>show S c=_;simp [jn,jt]
  |cons d r' =>
   show S c++S [44]++Str.join (S [44]) ((d::r').map S)=_
   rw [ih,wO,wO]
   simp [jn,jt]
def ent (k:Str) (c:List Nat):List Nat:=k.cps.toList++58::c
mutual
def tx:Tr->List Nat
 |.num i=>sgn i
 |.word z=>39::z.cps.toList
 |.row ts=>91::(jn (i7 ts)++[93])
 |.rec_ ks ts=>123::(jn (List.zipWith ent ks (i7 ts))++[125])
def i7:List Tr->List (List Nat)
 |[]=>[]
 |t::ts=>tx t::i7 ts
end
theorem tN:∀ts:List Tr,i7 ts=ts.map tx
 |[]=>rfl
 |t::ts=>by simp [i7,tN ts]
def i9 (ts:List Tr):tx (.row ts)=91::(jn (ts.map tx)++[93]):=by simp only [tx,tN]
theorem CP {f:Str->List Nat}:∀ks:Ad,List.zipWith ent ks (ks.map f)=ks.map λk=>ent k (f k)
 |[]=>rfl
 |k::ks=>by simp [CP ks]
def CQ (ks:Ad) (f:Str->Tr):tx (.rec_ ks (ks.map f))=123::(jn (ks.map λk=>ent k (tx (f k)))++[125]):=by
 simp only [tx,tN,List.map_map,CP];rfl
def jb {z:Str}(h:a9 z=true):1<=z.length/\z.length<=8:=by
 simp only [a9,yC,yZ] at h;exact h.1
def MQ {i:Int}(h:gd (.num i)):(sgn i).length<=19:=by
 have g : -1000000000000000000<i/\i<1000000000000000000:=h
 have:=m7 (m:=i.natAbs) (by omega)
 unfold sgn
 split
 ·simp only [yA];omega
 ·omega
theorem CS:∀{U:Type}{l:List U}{f:U->List Nat}{g:U->Nat},(∀x∈l,(f x).length+1<=g x)->(jt (l.map f)).length<=(l.map g).sum
 |_,[],_,_,_=>by simp [jt]
 |_,x::l,f,g,h=>by
  have:=h x (zY ..)
  have:=CS (l:=l) (f:=f) (g:=g) λy hy=>h y (yd _ hy)
  simp only [yi,jt,yA,jc,List.sum_cons];omega
def m8 {U:Type}{l:List U}{f:U->List Nat}{g:U->Nat}(h:∀x∈l,(f x).length+1<=g x):(jn (l.map f)).length<=(l.map g).sum:=by
 have:=CS h
 cases l with
 |nil=>simp [jn]
 |cons x l=>simp only [yi,jn,jt,yA,jc] at this ⊢;omega
theorem m9:∀ts:List Tr,(ts.map λt=>30*sz t).sum=30*aM ts
 |[]=>rfl
 |t::ts=>by simp only [yi,List.sum_cons,aM,m9 ts];omega
def MR {t:Tr}(g:gd t):(tx t).length+11<=30*sz t:=by
 refine fF (P:=λt=>(tx t).length+11<=30*sz t) (λi g=>?_) (λz g=>?_) (λts _ ih=>?_) (λks f nd hk _ ih=>?_) g
 ·have:=MQ g
  simp only [tx,sz];omega
 ·have:=jb g
  have e:z.cps.toList.length=z.length:=by cases z;simp [Str.length]
  simp only [tx,sz,yA];omega
 ·have:=m8 (l:=ts) (f:=tx) (g:=λt=>30*sz t) λt ht=>by have:=ih t ht;omega
  rw [m9] at this
  rw [i9]
  simp only [sz,yA,jc,List.length_nil];omega
 ·have:=m8 (l:=ks) (f:=λk=>ent k (tx (f k))) (g:=λk=>30*sz (f k)) λk h=>by
   have:=ih k h
   have:=jb (hk k h)
   have e:k.cps.toList.length=k.length:=by cases k;simp [Str.length]
   simp only [ent,jc,yA];omega
  have e:=m9 (ks.map f)
  rw [List.map_map] at e
  have e':(ks.map λk=>30*sz (f k)).sum=30*aM (ks.map f):=e
  rw [CQ]
  simp only [sz,yA,jc,List.length_nil];omega
def ad (x y:Str) (h:x.length+y.length<=1000000) (st:aj):zB (.str x) (.str y) st=.ok (.str (x++y)) st:=by
 rw [JB,zj h]
theorem CT:∀ls:List (List Nat),strsOf (ls.map λl=>PV.str (S l))=some (ls.map S)
 |[]=>rfl
 |l::ls=>by simp [strsOf,CT ls]
theorem CU:∀ls:List (List Nat),((ls.map S).map (·.length)).sum+ls.length<=(jt ls).length
 |[]=>by simp [jt]
 |l::ls=>by
  have:=CU ls
  have:=yR l
  simp only [yi,List.sum_cons,yA,jt,jc];omega
def MU (ls:List (List Nat)):(jt ls).length<=(jn ls).length+1:=by cases ls<;>simp [jt,jn]
def glue {fa:Ai}{e:za}{st s1:aj}{r:Nat}{ls:List (List Nat)}{a b:Str}{ca cb:Nat}(h:fa e st=.ok (.ref r) s1) (hr:s1[r]?=some (.lst (ls.map λl=>PV.str (S l)))) (hl:(jn ls).length<=5000) (ea:a=S [ca]) (eb:b=S [cb]) :
  (zf zB (zf zB (As a) (fV (As ",") fa)) (As b)) e st=.ok (.str (S (ca::(jn ls++[cb])))) s1:=by
 have hs:=CU ls
 have hj:=MU ls
 have J:(fV (As ",") fa) e st=.ok (.str (S (jn ls))) s1:=by
  show (fa e st).bind _=_
  rw [h,zA]
  show ym s1 r _=_
  rw [yH hr,CT]
  have l1:("," : Str).length=1:=by decide +kernel
  simp only [yX,l1]
  rw [zj (by omega),MP]
 subst ea eb
 have la:=yR [ca]
 have lb:=yR [cb]
 have lj:=yR (jn ls)
 refine zk (zk rfl J (ad _ _ (by rw [la,lj];simp;omega) _)) rfl ?_
 rw [ad _ _ (by rw [wO,yR,lb];simp;omega),wO,wO]
 simp
def TR.old {a b:aj}(o:Old a b) {t:Tr}{v:PV}(h:TR a t v):TR b t v:=h.mono o.dk t
def pO {U:Type}{l:List U}{i:Nat}{x:U}(h:l[i]?=some x):l.take (i+1)=l.take i++[x]:=by
 obtain ⟨hi,e⟩:=yN.mp h
 rw [<-e,List.take_append_getElem]
def nc {t:Tr}(g:gd t):(tx (cn t)).length+11<=30*sz t:=by have:=MR (tK yu g);rw [CO yu g] at this;exact this
def Tells (mr:Al) (t:Tr):Prop:=∀s v,TR s t v->∃s1,mr [v] s=.ok (.str (S (tx (cn t)))) s1/\Old s s1
def CV {mr:Al}{st:aj}{xs:An}{ts:List Tr}{e:za}(tr:aP st ts xs) (gs:∀t∈ts,gd t) (hz:aM ts<=60) (hm:∀t∈ts,Tells mr t) :
  ∃s1,(zf zB (zf zB (As "[") (fV (As ",") (yU (jE (zb 0)) (zo mr (ze (zb 0) zg))))) (As "]")) (some (.tup xs)::e) st=.ok (.str (S (tx (cn (.row ts))))) s1/\Old st s1:=by
 have hl:=tr.len
 obtain ⟨ys,s1,R,hy,o⟩:=iX (fe:=zo mr (ze (zb 0) zg)) (env:=some (.tup xs)::e) xs (λi ys s=>ys=((ts.take i).map λt=>PV.str (S (tx (cn t))))/\Old st s) (λi x ys s hx ⟨h1,h2⟩=>by
  obtain ⟨t,ht,MV⟩:=tr.get hx
  obtain ⟨s1,e1,o1⟩:=hm t (jy ht) s x (TR.old h2 MV)
  refine ⟨_,s1,zv (zD (zc rfl)) e1,?_,h2.trans o1⟩
  rw [h1,pO ht,y8];rfl) xs.length 0 [] st (by omega) ⟨rfl,Old.refl _⟩
 have hn:=iW ts
 refine ⟨s1++[.lst ys],?_,o.trans (yp _ _)⟩
 have C:(yU (jE (zb 0)) (zo mr (ze (zb 0) zg))) (some (.tup xs)::e) st=.ok (.ref s1.length) (s1++[.lst ys]):=by
  rw [gQ]
  show cU _ _ (.im xs) st=_
  rw [lg,zj (by simp [lim];omega)]
  exact R
 have G:=glue (ls:=ts.map λt=>tx (cn t)) (a := "[") (b := "]") (ca:=91) (cb:=93) C (by rw [yo,hy,<-hl,List.take_length,List.map_map];rfl) (by
  have:=m8 (l:=ts) (f:=λt=>tx (cn t)) (g:=λt=>30*sz t) λt ht=>by
   have:=nc (gs t ht);omega
  rw [m9] at this;omega) (by decide +kernel) (by decide +kernel)
 rw [G]
 simp only [cn,od,wa,i9,List.map_map]
 rfl
def MY {st:aj}{n:Nat}{ks:Ad}{xs:An}(hn:st[n]?=some (.dic ks xs)) (w:Str):z9 (.ref n) (.str w) st=cD ((ks.zip xs).lookup w) st:=by
 simp only [z9,Ag,iP hn]
def MZ:(":" : Str)=S [58]:=by decide +kernel
def M0:(":" : Str).length=1:=by decide +kernel
def M3 (a b:List Nat) (h:a.length+b.length<=1000000) (st:aj):zB (.str (S a)) (.str (S b)) st=.ok (.str (S (a++b))) st:=by
 rw [ad _ _ (by rw [yR,yR];exact h),wO]
def recC {mr:Al}{st:aj}{q:Nat}{xs:An}{ks:Ad}{f:Str->Tr}{e:za}(hq:st[q]?=some (.dic ks xs)) (tr:aP st (ks.map f) xs) (hw:∀k∈ks,a9 k=true) (gs:∀k∈ks,gd (f k)) (hz:aM (ks.map f)<=60) (hm:∀k∈ks,Tells mr (f k)) :
  ∃s1 r,(yU (jE (zo mW (ze (zb 0) zg))) (zf zB (zf zB (zb 0) (As ":")) (zo mr (ze (zf z9 (zb 1) (zb 0)) zg)))) (At q::e) st=.ok (.ref r) s1/\s1[r]?=some (.lst (((aL ks).map λk=>ent k (tx (cn (f k)))).map λl=>PV.str (S l)))/\Old st s1:=by
 have hl:=tr.len
 have hn:=iW (ks.map f)
 rw [yX] at hl hn
 have so:mW [.ref q] st=.ok (.ref st.length) (st++[.lst ((aL ks).map PV.str)]):=by
  show y3 st q _=_
  rw [iP hq,zj (by omega)]
 have ls:(aL ks).length=ks.length:=(yu ks).length_eq
 obtain ⟨ys,s1,R,hy,o,ha⟩:=tH (fe:=(zf zB (zf zB (zb 0) (As ":")) (zo mr (ze (zf z9 (zb 1) (zb 0)) zg)))) (env:=some (.ref q)::e) (n:=st.length) ((aL ks).map PV.str) (λi ys s=>ys=(((aL ks).take i).map λk=>PV.str (S (ent k (tx (cn (f k))))))/\Old st s/\s[st.length]?=some (.lst ((aL ks).map PV.str))) (λi ys s h=>h.2.2) (λi x ys s hx ⟨h1,h2,h3⟩=>by
  rw [y7] at hx
  cases hk:(aL ks)[i]? with
  |none=>rw [hk] at hx;cases hx
  |some k =>
   rw [hk] at hx
   cases hx
   have km:=yu.sub ks k (jy hk)
   obtain ⟨y,hy,ty⟩:=tG tr (tI km)
   obtain ⟨s1,e1,o1⟩:=hm k km s y (TR.old h2 ty)
   have ix:z9 (.ref q) (.str k) s=.ok y s:=by rw [MY (h2 _ _ hq),hy];rfl
   have lk:=jb (hw k km)
   have lt:=nc (gs k km)
   have lz:=fE (List.mem_map_of_mem (f:=f) km)
   have kl:k.cps.toList.length=k.length:=by cases k;simp [Str.length]
   have a1:zB (.str k) (.str ":") s=.ok (.str (S (k.cps.toList++[58]))) s:=by
    rw [ad k ":" (by rw [M0];omega),MZ,MN]
   have a2:=M3 (k.cps.toList++[58]) (tx (cn (f k))) (by rw [jc,qk];omega) s1
   refine ⟨_,s1,zk (zk (zc rfl) rfl a1) (zv (zD (zk (zc rfl) (zc rfl) ix)) e1) a2,?_,h2.trans o1,o1 _ _ h3⟩
   rw [h1,pO hk,y8]
   simp [ent]) (aL ks).length 0 (lim+1) [] (st++[.lst ((aL ks).map PV.str)]) (by simp) (by simp [lim];omega) ⟨rfl,yp _ _,yo _ _⟩
 refine ⟨s1++[.lst ys],s1.length,?_,?_,o.trans (yp _ _)⟩
 ·have tO:=yo st (SO.lst ((aL ks).map PV.str))
  rw [gQ,k_,zv (zD (zc rfl)) so,zA]
  simp only [eW]
  rw [yH tO,zA]
  simp only [cU]
  exact R
 ·rw [yo,hy,yX,List.take_length,List.map_map];rfl
def eY {ks:Ad}{f:Str->Tr}(hw:∀k∈ks,a9 k=true) (gs:∀k∈ks,gd (f k)) (hz:aM (ks.map f)<=60):(jn ((aL ks).map λk=>ent k (tx (cn (f k))))).length<=5000:=by
 have:=m8 (l:=aL ks) (f:=λk=>ent k (tx (cn (f k)))) (g:=λk=>30*sz (f k)) λk hk=>by
  have km:=yu.sub ks k hk
  have h1:=nc (gs k km)
  have h2:=jb (hw k km)
  have e:k.cps.toList.length=k.length:=by cases k;simp [Str.length]
  simp only [ent,jc,yA];omega
 have e:((aL ks).map λk=>30*sz (f k)).sum=30*aM ((aL ks).map f):=by rw [<-m9,List.map_map];rfl
 rw [e,pL ((yu ks).map f)] at this
 omega
def i_ (ks:Ad) (f:Str->Tr):tx (cn (.rec_ ks (ks.map f)))=123::(jn ((aL ks).map λk=>ent k (tx (cn (f k))))++[125]):=by
 rw [cn,wN (yu.sub ks),CQ]
def CW (i:Int):(Str.ofString (toString i))=S (sgn i):=by rw [<-ML,jZ]
def M4 {i:Int}(h:gd (.num i)) (st:aj):jW [.int i] st=.ok (.str (S (sgn i))) st:=by
 have g : -1000000000000000000<i/\i<1000000000000000000:=h
 rw [AO,zj]
 ·rw [<-CW]
 ·by_cases h0:i.natAbs=0
  ·rw [h0];decide
  ·have:=(Nat.log2_lt h0 (k:=1920)).mpr (yY (show i.natAbs<2 ^ 60 by omega) (Nat.pow_le_pow_right (by decide) (by decide)))
   exact this
def M5 {z:Str} (h:a9 z=true) (st:aj):zB (.str "'") (.str z) st=.ok (.str (S (39::z.cps.toList))) st:=by
 have c1:("'" : Str)=S [39]:=by decide +kernel
 have c2:("'" : Str).length=1:=by decide +kernel
 have:=jb h
 rw [ad _ _ (by rw [c2];omega),c1,<-jZ z,wO,jZ]
 rfl
def tP:∀(n:Nat) (t:Tr),dp t<n->sz t<=60->gd t->Tells (wL n) t:=by
 intro n
 induction n with
 |zero=>intro t h;omega
 |succ n ih =>
  intro t hd hz g st v tv
  have is:=Ml tv
  show ∃s1,sT (wL n) [v] st=_/\_
  cases t with
  |num i =>
   cases tv
   exact ⟨st,zK rfl (zm (zG (zn (zv (zO (zc rfl) rfl) (is "str")))) (zm (zG (zn (zv (zO (zc rfl) rfl) (is "tuple")))) (zm (zG (zn (zv (zO (zc rfl) rfl) (is "dict")))) (zJ (zv (zD (zc rfl)) (M4 g st)))))),Old.refl _⟩
  |word z =>
   obtain ⟨rfl,_⟩:=tv
   exact ⟨st,zK rfl (yq (z7 (zn (zv (zO (zc rfl) rfl) (is "str"))) (zJ (zk rfl (zc rfl) (M5 g st))))),Old.refl _⟩
  |row ts =>
   obtain ⟨xs,rfl,r1⟩:=tv
   simp only [sz] at hz
   simp only [dp] at hd
   have g':=jO.mp g
   obtain ⟨s1,e,o⟩:=CV (mr:=wL n) (e:=[]) r1 g' (by omega) λt ht=>ih t (by have:=j9 ht;omega) (by have:=fE ht;omega) (g' t ht)
   exact ⟨s1,zK rfl (zm (zG (zn (zv (zO (zc rfl) rfl) (is "str")))) (yq (z7 (zn (zv (zO (zc rfl) rfl) (is "tuple"))) (zJ e)))),o⟩
  |rec_ ks ts =>
   obtain ⟨q,xs,rfl,hq,_,_,r1,_⟩:=tv
   simp only [sz] at hz
   simp only [dp] at hd
   obtain ⟨nd,hl,hw,g1⟩:=g
   obtain ⟨f,rfl⟩:=m6 nd hl
   have g':=jO.mp g1
   have gk:∀k∈ks,gd (f k):=λk hk=>g' _ (List.mem_map_of_mem hk)
   obtain ⟨s1,r,e,hr,o⟩:=recC (mr:=wL n) (e:=[]) hq r1 hw gk (by omega) λk hk=>ih (f k) (by have:=j9 (List.mem_map_of_mem (f:=f) hk);omega) (by have:=fE (List.mem_map_of_mem (f:=f) hk);omega) (gk k hk)
   have G:=glue (a := "{") (b := "}") (ca:=123) (cb:=125) e hr (eY hw gk (by omega)) (by decide +kernel) (by decide +kernel)
   rw [<-i_] at G
   exact ⟨s1,zK rfl (zm (zG (zn (zv (zO (zc rfl) rfl) (is "str")))) (zm (zG (zn (zv (zO (zc rfl) rfl) (is "tuple")))) (yq (z7 (zn (zv (zO (zc rfl) rfl) (is "dict"))) (zJ G))))),o⟩
def eqs (a b:Str) (c:Bool) (h:decide (a=b)=c) (st:aj):yf (.str a) (.str b) st=.ok (.bl c) st:=by rw [Kt,h]
def vw (R:List Nat) (s:aj):aj:=s.mapIdx λi so=>if i∈R then SO.lst [] else so
def fZ {R:List Nat}{s:aj}{n:Nat}{ks:Ad}{xs:An}:(vw R s)[n]?=some (.dic ks xs)↔n∉R/\s[n]?=some (.dic ks xs):=by
 unfold vw
 rw [List.getElem?_mapIdx]
 cases h:s[n]? with
 |none=>simp
 |some so =>
  by_cases hn:n∈R
  ·simp [hn]
  ·simp [hn]
def j_ {R R':List Nat}{s s':aj}(h:∀(n:Nat) ks xs,n∉R->s[n]?=some (SO.dic ks xs)->n∉R'/\s'[n]?=some (SO.dic ks xs)):Dk (vw R s) (vw R' s'):=λn ks xs e=>fZ.mpr (h n ks xs (fZ.mp e).1 (fZ.mp e).2)
def tQ {R:List Nat}{s s':aj}(o:Old s s'):Dk (vw R s) (vw R s'):=j_ λn _ _ h e=>⟨h,o n _ e⟩
def tS {R:List Nat}{s:aj}:Dk (vw R s) s:=λn ks xs e=>(fZ.mp e).2
def tT {R:List Nat}{s:aj}{r:Nat}(so:SO):Dk (vw (r::R) s) (vw (r::R) (s.set r so)):=j_ λn _ _ h e=>⟨h,by rw [yI (λq=>h (by rw [q];exact zY ..))];exact e⟩
def tU {R:List Nat}{s:aj}{r:Nat}:Dk (vw (r::R) s) (vw R s):=j_ λn _ _ h e=>⟨λm=>h (yd _ m),e⟩
theorem CY {g:PV->za->Option za}{body:Aj}{n:Nat}(xs:An) (I:Nat->za->aj->Prop) (at_:∀i e st,I i e st->st[n]?=some (.lst xs)) (step:∀i x e st,xs[i]?=some x->I i e st->∃e1 e2 aK,g x e=some e1/\body e1 st=.ok (.nx e2) aK/\I (i+1) e2 aK) :
  ∀(k i m:Nat) (env:za) (st:aj),i+k=xs.length->k<m->I i env st->∃cI aR,forR g body n m i env st=.ok (.nx cI) aR/\I xs.length cI aR
 |0,i,m,env,st,hk,hm,h=>by
  obtain ⟨m,rfl⟩:∃j,m=j+1:=⟨m-1,by omega⟩
  refine ⟨env,st,?_,by rw [<-hk];exact h⟩
  unfold forR
  rw [yH (at_ _ _ _ h),List.getElem?_eq_none (by omega)]
 |k+1,i,m,env,st,hk,hm,h=>by
  obtain ⟨m,rfl⟩:∃j,m=j+1:=⟨m-1,by omega⟩
  have hx:xs[i]?=some (xs[i]'(by omega)):=yc (by omega)
  obtain ⟨e1,e2,aK,q1,q2,q3⟩:=step i _ env st hx h
  obtain ⟨cI,aR,r,h2⟩:=CY xs I at_ step k (i+1) m e2 aK (by omega) (by omega) q3
  refine ⟨cI,aR,?_,h2⟩
  unfold forR
  rw [yH (at_ _ _ _ h),hx]
  simp only
  rw [q1]
  simp only
  rw [q2]
  simp only [zA]
  exact r
def CZ {fo fi fv:Ai}{e:za}{s s1:aj}{r:Nat}{z:Str}{x:PV}{ks:Ad}{xs:An}(hv:fv e s=.ok x s1) (ho:fo e s1=.ok (.ref r) s1) (hi:fi e s1=.ok (.str z) s1) (hr:s1[r]?=some (.dic ks xs)) (hn:z∉ks) (hl:ks.length<=1000) :
  wJ fo fi fv e s=.ok (.nx e) (s1.set r (.dic (ks++[z]) (xs++[x]))):=by
 unfold wJ
 rw [hv,zA,ho,zA,hi,zA]
 show (y3 s1 r _).bind _=_
 rw [iP hr,zj (by simp [lim];omega),zA]
 have:ks.contains z=false:=by simpa using hn
 simp only [jV,this]
 rfl
def bO {U:Type}{l:List U}{k:Nat}{x:U}(h:l[k]?=some x):cN l (k:Int)=some x:=by
 have:=(yN.mp h).1
 have e:=(yN.mp h).2
 simp [cN,kR,this,e]
abbrev sR (n:Nat):Option PV:=some (.ref n)
abbrev sI (n:Nat):Option PV:=Au n
def Dc (d:Nat) (s:aj):Prop:=∃l:List Int,s[d]?=some (.lst (l.map PV.int))
structure Nx (d:Nat) (a b:aj):Prop where
 ob:Ob d a b
 dc:Dc d b
theorem Nx.trans {d:Nat}{a b c:aj}(h:Nx d a b) (h':Nx d b c):Nx d a c:=⟨h.ob.trans h'.ob,h'.dc⟩
def Nx.refl {d:Nat}{a:aj}(h:Dc d a):Nx d a a:=⟨λ_ _ _ e=>e,h⟩
def Nx.of {d:Nat}{a b:aj}(h:Dc d a) (o:Old a b):Nx d a b:=⟨CI o,by obtain ⟨l,e⟩:=h;exact ⟨l,o _ _ e⟩⟩
def Nx.lt {d:Nat}{a b:aj}(h:Nx d a b) {n:Nat}(hn:n<a.length):n<b.length:=by
 by_cases e:n=d
 ·obtain ⟨l,q⟩:=h.dc;rw [e];exact yr q
 ·exact yr (h.ob n _ e (yc hn))
theorem Nx.vw {d:Nat}{a b:aj}{R:List Nat}(h:Nx d a b) (hd:Dc d a):Dk (FK22.vw R a) (FK22.vw R b):=j_ λn ks xs hn e=>⟨hn,h.ob n _ (λq=>by obtain ⟨l,e'⟩:=hd;rw [q,e'] at e;cases e) e⟩
def yS {d:Nat}{st:aj}(hd:Dc d st) (m:Nat) (hm:0<m):∃(r:Nat) (s1:aj),yF [.ref d,.int (m:Int)] st=.ok (.int (r:Int)) s1/\r<m/\Nx d st s1:=by
 obtain ⟨l,e⟩:=hd
 cases l with
 |nil =>
  refine ⟨0,st,zK rfl (yq (z7 (zn (zk (zv (zD (zc rfl)) (o9 e)) rfl (sj _ _))) (zJ rfl))),hm,Nx.refl ⟨[],e⟩⟩
 |cons i l =>
  obtain ⟨b,hb,eb⟩:=eJ i m hm
  have e1:(st.set d (.lst (l.map PV.int)))[d]?=some (.lst (l.map PV.int)):=jr (yr e)
  refine ⟨b,st.set d (.lst (l.map PV.int)),zK rfl (zm (zG (zn (zk (zv (zD (zc rfl)) (o9 e)) rfl ((sj _ _).trans (by rw [js (by simp;omega)]))))) (zJ (zk (pe (zc rfl) e rfl (by
   show ym st d _=_
   rw [yH e]
   rfl)) (zc rfl) ((gW _ _ (by omega)).trans (by rw [eb]))))),hb,⟨CJ d st _,l,e1⟩⟩
def pP (st:aj):jK (.int 10) (.int 9) st=.ok (.int 1000000000) st:=by
 have cp:d8 10 9=true:=by decide
 have pw:((10:Int) ^ (9:Int).toNat)=1000000000:=by decide
 show (if d8 10 9=true then Res.ok (PV.int (10 ^ (9:Int).toNat)) st else .stuck)=_
 rw [zj cp,pw]
def C1 (st:aj):jK (.int 10) (.int 17) st=.ok (.int 100000000000000000) st:=by
 have cp:d8 10 17=true:=by decide
 have pw:((10:Int) ^ (17:Int).toNat)=100000000000000000:=by decide
 show (if d8 10 17=true then Res.ok (PV.int (10 ^ (17:Int).toNat)) st else .stuck)=_
 rw [zj cp,pw]
def ng (st:aj):jK (.int 10) (.int 18) st=.ok (.int 1000000000000000000) st:=by
 have cp:d8 10 18=true:=by decide
 have pw:((10:Int) ^ (18:Int).toNat)=1000000000000000000:=by decide
 show (if d8 10 18=true then Res.ok (PV.int (10 ^ (18:Int).toNat)) st else .stuck)=_
 rw [zj cp,pw]
def g0 {i j:Int}(b:Bool) (h:decide (i<j)=b) (st:aj):wH (.int i) (.int j) st=.ok (.bl b) st:=by rw [sh,h]
def a6 {i j:Int}(b:Bool) (h:decide (i=j)=b) (st:aj):yf (.int i) (.int j) st=.ok (.bl b) st:=by rw [sj,h]
def dq {i j:Int}(b:Bool) (h:decide (j<i)=b) (st:aj):jS (.int i) (.int j) st=.ok (.bl b) st:=by rw [Ks,h]
def M6 {d:Nat}{st:aj}(hd:Dc d st):∃(i:Int) (s1:aj),sU [.ref d] st=.ok (.int i) s1/\gd (.num i)/\Nx d st s1:=by
 obtain ⟨w,s1,e1,hw,n1⟩:=yS hd 6 (by decide)
 have A:∀{X:Res Fl},BO [sR d,some (.int w),none,none] s1=X->pA [sR d,none,none,none] st=X:=λh=>zm (zV (zv (zO (zc rfl) rfl) e1)) h
 by_cases c1:w<2
 ·obtain ⟨r,s2,e2,hr,n2⟩:=yS n1.dc 10 (by decide)
  exact ⟨r,s2,zK rfl (A (yq (z7 (zn (zk (zc rfl) rfl (g0 true (by simp;omega) _))) (zJ (zv (zO (zc rfl) rfl) e2))))),⟨by omega,by omega⟩,n1.trans n2⟩
 have B:∀{X:Res Fl},BN [sR d,some (.int w),none,none] s1=X->pA [sR d,none,none,none] st=X:=λh=>A (zm (zG (zn (zk (zc rfl) rfl (g0 false (by simp;omega) _)))) h)
 by_cases c2:w=2
 ·obtain ⟨r,s2,e2,hr,n2⟩:=yS n1.dc 1000 (by decide)
  exact ⟨0-(r:Int),s2,zK rfl (B (yq (z7 (zn (zk (zc rfl) rfl (a6 true (by simp;omega) _))) (zJ (zk rfl (zv (zO (zc rfl) rfl) e2) (gU _ _)))))),⟨by omega,by omega⟩,n1.trans n2⟩
 have C:∀{X:Res Fl},BM [sR d,some (.int w),none,none] s1=X->pA [sR d,none,none,none] st=X:=λh=>B (zm (zG (zn (zk (zc rfl) rfl (a6 false (by simp;omega) _)))) h)
 by_cases c3:w=3
 ·let L:List Int:=[1000000000000000000-1,1-1000000000000000000,100000000000000000,1-100000000000000000,99,-10]
  have nd:Nx d s1 (s1++[.lst (L.map PV.int)]):=Nx.of n1.dc (yp _ _)
  obtain ⟨r,s2,e2,hr,n2⟩:=yS nd.dc 6 (by decide)
  have hL:s2[s1.length]?=some (.lst (L.map PV.int)):=by
   refine n2.ob _ _ ?_ (yo _ _)
   obtain ⟨l,q⟩:=n1.dc
   have:=yr q
   omega
  have hx:L[r]?=some (L[r]'hr):=yc hr
  have g:gd (.num (L[r]'hr)):=by
   have:∀x∈L,-1000000000000000000<x/\x<1000000000000000000:=by decide
   exact this _ (lS _)
  refine ⟨L[r]'hr,s2,zK rfl (C (yq (z7 (zn (zk (zc rfl) rfl (a6 true (by simp;omega) _))) (zm (zV (wv (xs:=L.map PV.int) (fU (zk (zk rfl rfl (ng _)) rfl (gU _ _)) (fU (zk rfl (zk rfl rfl (ng _)) (gU _ _)) (fU (zk rfl rfl (C1 _)) (fU (zk rfl (zk rfl rfl (C1 _)) (gU _ _)) (fU rfl (zD (yL rfl rfl)))))))
   (by simp [L]))) (zJ (zk (zc rfl) (zv (zO (zc rfl) rfl) e2) (by
    rw [o5,yH hL,bO (x:=PV.int (L[r]'hr)) (by rw [y7,hx];rfl)]
    rfl))))))),g,n1.trans (nd.trans n2)⟩
 obtain ⟨a,s2,e2,ha,n2⟩:=yS n1.dc 1000000000 (by decide)
 obtain ⟨b,s3,e3,hb,n3⟩:=yS n2.dc 1000000000 (by decide)
 have hm:∀n:Nat,n<2->∀(x y:PV),cN [x,y] (n:Int)=some (if n=0 then x else y):=λn hn x y=>by
  match n,hn with
  |0,_=>rfl
  |1,_=>rfl
 obtain ⟨k,hk,ek⟩:=eJ (w:Int) 2 (by decide)
 have n4:Nx d s3 (s3++[.lst [.int ((a:Int)*1000000000+b),.int (0-((a:Int)*1000000000+b))]]):=Nx.of n3.dc (yp _ _)
 refine ⟨if k=0 then (a:Int)*1000000000+b else 0-((a:Int)*1000000000+b),_,zK rfl (C (zm (zG (zn (zk (zc rfl) rfl (a6 false (by simp;omega) _)))) (zm (zV (zk (zk (zv (zO (zc rfl) (zk rfl rfl (pP _))) e2) (zk rfl rfl (pP _)) (gX _ _ (by simp [cx]))) (zv (zO (zc rfl) (zk rfl rfl (pP _))) e3) (jl _ _)))
  (zJ (zk (wv (zO (zc rfl) (zk rfl (zc rfl) (gU _ _))) (by simp)) (zk (zc rfl) rfl ((gW _ _ (by decide)).trans (by rw [show jL (w:Int) 2=(k:Int) from ek]))) (by
   rw [o5,yH (yo _ _),hm k hk _ _]
   split<;>rfl)))))),?_,n1.trans (n2.trans (n3.trans n4))⟩
 split
 ·exact ⟨by omega,by omega⟩
 ·exact ⟨by omega,by omega⟩
def M7 (cs:List Nat):PySem.Txt.join ("" : Str) (cs.map λc=>(⟨#[c]⟩:Str))=S cs:=by
 show PySem.Builtin.Str.glued ("" : Str) (cs.map λc=>(⟨#[c]⟩:Str))=_
 rw [PySem.StrLaws.glued_eq_join]
 have e0:("" : Str)=S []:=by decide +kernel
 rw [e0]
 induction cs with
 |nil=>rfl
 |cons c r ih =>
  cases r with
  |nil=>rfl
  |cons d r' =>
   show S [c]++S []++Str.join (S []) ((d::r').map λc=>(⟨#[c]⟩:Str))=_
   rw [ih,wO,wO]
   simp
def lH (j:Nat):Nat:=(abc.cps.toList[j]?).getD 0
def M8 (j:Nat) (hj:j<26) (st:aj):z9 (.str abc) (.int j) st=.ok (.str ⟨#[lH j]⟩) st/\lH j∈abc.cps.toList:=by
 have hz:abc.cps.toList.length=26:=by decide +kernel
 have lt:j<abc.cps.toList.length:=by omega
 have hl:abc.length<=1000000:=by decide +kernel
 have e:abc.cps.toList[j]?=some (lH j):=by unfold lH;rw [yc lt];rfl
 refine ⟨?_,jy e⟩
 rw [AK,JI,zj hl,bO e]
 rfl
def M9 {n i:Nat}{x:PV}(h:(nums 0 n)[i]?=some x):i<n/\x=.int (i:Int):=by
 unfold nums at h
 rw [y7] at h
 cases e:(List.range n)[i]? with
 |none=>rw [e] at h;cases h
 |some j =>
  rw [e] at h
  obtain ⟨h1,h2⟩:=yN.mp e
  rw [List.getElem_range] at h2
  rw [List.length_range] at h1
  cases h
  exact ⟨h1,by subst h2;simp⟩
def tV (n:Nat):(nums 0 n).length=n:=by simp [nums]
def M_ (m:Nat) (st:aj) (h:m<=1000):iJ [.int (m:Int)] st=.ok (.im (nums 0 m)) st:=by
 have hr:cR (m:Int)=true:=by simp [cR];omega
 rw [JZ,zj hr];simp
def pQ {fe:Ai}{fs:Ah}{env:za}{st s0:aj}(n:Nat) (hn:n<=1000) (hf:fs env st=.ok [.int (n:Int)] s0) (I:Nat->List PV->aj->Prop) (step:∀i ys st,i<n->I i ys st->∃y au,fe (sI i::env) st=.ok y au/\I (i+1) (ys++[y]) au) (h0:I 0 [] s0) :
  ∃a8 aR,(yU (bT fs) fe) env st=.ok (.ref aR.length) (aR++[.lst a8])/\I n a8 aR:=by
 obtain ⟨ys,s1,C,h⟩:=iX (fe:=fe) (env:=env) (nums 0 n) I (λi x ys st hx h=>by
  obtain ⟨hi,rfl⟩:=M9 hx
  exact step i ys st hi h) n 0 [] s0 (by rw [tV];omega) h0
 rw [tV] at h
 refine ⟨ys,s1,?_,h⟩
 rw [gQ,AL,hf,zA,M_ n _ hn,zA,lg,zj (by rw [tV];simp [lim];omega)]
 exact C
theorem C3:∀cs:List Nat,strsOf (cs.map λc=>PV.str ⟨#[c]⟩)=some (cs.map λc=>(⟨#[c]⟩:Str))
 |[]=>rfl
 |c::cs=>by simp [strsOf,C3 cs]
theorem C4:∀cs:List Nat,((cs.map λc=>(⟨#[c]⟩:Str)).map (·.length)).sum=cs.length
 |[]=>rfl
 |c::cs=>by have:=C4 cs;simp only [yi,List.sum_cons,yA,this];show 1+_=_;omega
def C5 {cs:List Nat}(h1:1<=cs.length) (h8:cs.length<=8) (hc:∀c∈cs,c∈abc.cps.toList):a9 (S cs)=true:=by
 unfold a9
 rw [yR]
 simp only [yC,yZ,List.all_eq_true]
 exact ⟨⟨h1,h8⟩,λc h=>hc c (by simpa [S] using h)⟩
def Na:("" : Str).length=0:=by decide +kernel
def Nb {z:Str}{fa:Ai}{e:za}{st s1:aj}{r:Nat}{xs:An}{zs:Ad}(h:fa e st=.ok (.ref r) s1) (hr:s1[r]?=some (.lst xs)) (hz:strsOf xs=some zs) (hl:(zs.map (·.length)).sum+zs.length*z.length<=1000000):fV (As z) fa e st=.ok (.str (PySem.Txt.join z zs)) s1:=by
 show (fa e st).bind _=_
 rw [h,zA]
 show ym s1 r _=_
 rw [yH hr,hz]
 exact zj hl
def ni {d:Nat}{st:aj}(hd:Dc d st):∃(z:Str) (s1:aj),gZ [.ref d] st=.ok (.str z) s1/\a9 z=true/\Nx d st s1:=by
 obtain ⟨w,s1,e1,hw,n1⟩:=yS hd 8 (by decide)
 obtain ⟨c,s2,e2,hc,n2⟩:=yS n1.dc 1000000007 (by decide)
 have Nc:(1:Int)+(w:Int)=((1+w:Nat):Int):=by omega
 obtain ⟨ys,s3,C,cs,hy,hl,ha,hs⟩:=pQ (fe:=(zf z9 (zb 2) (zf yK (zf zB (zf wZ (zb 4) (zf zB (Ar 1) (zf jk (zf jk (zb 0) (zb 0)) (zb 0)))) (zf jk (zb 0) (zb 3))) (Ar 26)))) (fs:=(ze (zb 2) zg)) (env:=[sR d,some (.str abc),some (.int (1+(w:Int))),some (.int c)]) (st:=s2) (1+w) (by omega) (zD (by rw [<-Nc];exact zc rfl))
  (λi ys s=>∃cs:List Nat,ys=cs.map (λc=>PV.str ⟨#[c]⟩)/\cs.length=i/\(∀c∈cs,c∈abc.cps.toList)/\s=s2) (λi ys s hi ⟨cs,h1,h2,h3,h4⟩=>by
   subst h4
   obtain ⟨k,hk,ek⟩:=eJ (wY (c:Int) (1+(i:Int)*i*i)+(i:Int)*(1+(w:Int))) 26 (by decide)
   have ek:jL (wY (c:Int) (1+(i:Int)*i*i)+(i:Int)*(1+(w:Int))) 26=(k:Int):=ek
   have tW:(i:Int)<=8:=by omega
   have p1:(i:Int)*i<=8*8:=Int.mul_le_mul tW tW (by omega) (by omega)
   have p0:0<=(i:Int)*i:=Int.mul_nonneg (by omega) (by omega)
   have p2:(i:Int)*i*i<=8*8*8:=Int.mul_le_mul p1 tW (by omega) (by omega)
   have p3:0<=(i:Int)*i*i:=Int.mul_nonneg p0 (by omega)
   have L:=M8 k hk s
   exact ⟨.str ⟨#[lH k]⟩,s,zk (zc rfl) (zk (zk (zk (zc rfl) (zk rfl (zk (zk (zc rfl) (zc rfl) (gX _ _ (by simp [cx];omega))) (zc rfl) (gX _ _ (by simp [cx];omega))) (jl _ _)) (sf _ _ (by omega) (by omega))) (zk (zc rfl) (zc rfl) (gX _ _ (by simp [cx];omega))) (jl _ _)) rfl ((gW _ _ (by decide)).trans (by rw [ek]))) L.1,cs++[lH k],by rw [h1,y8];rfl,by simp [h2],λx hx=>by
    rcases j2.mp hx with h|h
    ·exact h3 x h
    ·rw [hU.mp h];exact L.2,rfl⟩) ⟨[],rfl,rfl,(λ_ h=>nomatch h),rfl⟩
 subst hs
 refine ⟨S cs,s3++[.lst ys],zK rfl (zm (zV rfl) (zm (zV (zk rfl (zv (zO (zc rfl) rfl) e1) (jl _ _))) (zm (zV (zv (zO (zc rfl) rfl) e2)) (zJ ((Nb C (yo _ _) (by rw [hy];exact C3 cs) (by rw [C4,Na];simp;omega)).trans (by rw [M7])))))),C5 (by omega) (by omega) ha,(n1.trans n2).trans (Nx.of n2.dc (yp _ _))⟩
def bd:Nat->Nat
 |0=>1
 |k+1=>1+3*bd k
def Nd:∀b,1<=bd b
 |0=>by simp [bd]
 |k+1=>by simp only [bd];omega
def Made (d:Nat) (R:List Nat) (st:aj) (b m:Nat) (s1:aj) (v:PV):Prop:=∃t,TR (vw R s1) t v/\gd t/\dp t<=b/\sz t<=m/\Nx d st s1
theorem tX {m:Nat}:∀{ts:List Tr},(∀t∈ts,sz t<=m)->aM ts<=ts.length*m
 |[],_=>by simp [aM]
 |t::ts,h=>by
  have:=h t (zY ..)
  have:=tX (ts:=ts) λu hu=>h u (yd _ hu)
  simp only [aM,yA,Nat.add_mul];omega
def Nf {fo fi fv:Ai}{e:za}{s s1:aj}{r:Nat}{z:Str}{x:PV}{ks:Ad}{xs:An}(hv:fv e s=.ok x s1) (ho:fo e s1=.ok (.ref r) s1) (hi:fi e s1=.ok (.str z) s1) (hr:s1[r]?=some (.dic ks xs)) (hl:ks.length<=1000) :
  wJ fo fi fv e s=.ok (.nx e) (s1.set r (.dic (jV z x ks xs).1 (jV z x ks xs).2)):=by
 unfold wJ
 rw [hv,zA,ho,zA,hi,zA]
 show (y3 s1 r _).bind _=_
 rw [iP hr,zj (by simp [lim];omega),zA]
theorem C6 {a:aj}{z:Str}{x:PV}{t:Tr}(tt:TR a t x):∀{ks:Ad}{ts:List Tr}{xs:An},aP a ts xs->∃dC,aP a dC (repl z x ks xs)/\dC.length=ts.length/\∀u∈dC,u∈ts\/u=t
 |[],ts,xs,h=>⟨ts,by unfold repl;exact h,rfl,λu hu=>.inl hu⟩
 |k::ks,[],xs,h=>by cases h;exact ⟨[],by unfold repl;rfl,rfl,λu hu=>.inl hu⟩
 |k::ks,t0::ts,xs,h=>by
  obtain ⟨y,r,rfl,h1,h2⟩:=h
  obtain ⟨dC,g1,g2,g3⟩:=C6 tt (ks:=ks) h2
  unfold repl
  by_cases e:k=z
  ·rw [zj e]
   exact ⟨t::dC,⟨x,_,rfl,tt,g1⟩,by simp [g2],λu hu=>by
    rcases yn.mp hu with q|q
    ·exact .inr q
    ·exact (g3 u q).imp (λh=>yd _ h) id⟩
  ·rw [zx e]
   exact ⟨t0::dC,⟨y,_,rfl,h1,g1⟩,by simp [g2],λu hu=>by
    rcases yn.mp hu with q|q
    ·exact .inl (by rw [q];exact zY ..)
    ·exact (g3 u q).imp (λh=>yd _ h) id⟩
def Ng {a:aj}{ks:Ad}{xs:An}{ts:List Tr}{z:Str}{x:PV}{t:Tr}(tr:aP a ts xs) (nd:ks.Nodup) (len:ks.length=ts.length) (tt:TR a t x):∃dC,aP a dC (jV z x ks xs).2/\(jV z x ks xs).1.Nodup/\(jV z x ks xs).1.length=dC.length/\dC.length<=ts.length+1/\(∀u∈dC,u∈ts\/u=t)/\∀k∈(jV z x ks xs).1,k∈ks\/k=z:=by
 unfold jV
 by_cases h:ks.contains z=true
 ·rw [zj h]
  obtain ⟨dC,g1,g2,g3⟩:=C6 (z:=z) tt (ks:=ks) tr
  exact ⟨dC,g1,nd,by simp only;omega,by omega,g3,λk hk=>.inl hk⟩
 ·rw [zx h]
  have hz:z∉ks:=by simpa using h
  refine ⟨ts++[t],tr.append ⟨x,[],rfl,tt,rfl⟩,?_,by simp [len],by simp,λu hu=>?_,λk hk=>?_⟩
  ·simp only
   rw [List.nodup_append]
   exact ⟨nd,by simp,λa ha b hb=>by rw [hU.mp hb];exact λe=>hz (e▸ha)⟩
  ·rcases j2.mp hu with q|q
   ·exact .inl q
   ·exact .inr (hU.mp q)
  ·rcases j2.mp hk with q|q
   ·exact .inl q
   ·exact .inr (hU.mp q)
structure Rec (d r:Nat) (R:List Nat) (a:aj) (P:Tr->Prop) (i:Nat) (s:aj):Prop where
 nx:Nx d a s
 ex:∃ks ys ts,s[r]?=some (.dic ks ys)/\aP (vw (r::R) s) ts ys/\ks.Nodup/\ks.length=ts.length/\ts.length<=i/\(∀t∈ts,P t)/\∀k∈ks,a9 k=true
def Rec.put {d r:Nat}{R:List Nat}{a s s1:aj}{P:Tr->Prop}{i:Nat}(h:Rec d r R a P i s) (hi:i<=1000) (hr:a.length<=r) (Pt:d<a.length) (n1:Nx d s s1) {t:Tr}{x:PV}{z:Str}(tt:TR (vw (r::R) s1) t x) (pt:P t) (hz:a9 z=true) {fo fi fv:Ai}{e:za}(hv:fv e s=.ok x s1) (ho:fo e s1=.ok (.ref r) s1) (kW:fi e s1=.ok (.str z) s1) :
  ∃s2,wJ fo fi fv e s=.ok (.nx e) s2/\Rec d r R a P (i+1) s2:=by
 obtain ⟨ks,ys,ts,h1,h2,h3,h4,h5,h6,h7⟩:=h.ex
 have C7:=n1.ob r _ (by omega) h1
 have Nh:=aP.mono (n1.vw h.nx.dc) _ h2
 obtain ⟨dC,g1,g2,g3,g4,g5,g6⟩:=Ng (z:=z) Nh h3 h4 tt
 refine ⟨_,Nf hv ho kW C7 (by omega),⟨⟨λn so hn hs=>?_,?_⟩,_,_,dC,jr (yr C7),aP.mono (tT _) _ g1,g2,g3,by omega,λu hu=>?_,λk hk=>?_⟩⟩
 ·have:=yr hs
  rw [yI (by omega)]
  exact (h.nx.trans n1).ob n so hn hs
 ·obtain ⟨l,e⟩:=n1.dc
  exact ⟨l,by rw [yI (by omega)];exact e⟩
 ·rcases g5 u hu with q|q
  ·exact h6 u q
  ·rw [q];exact pt
 ·rcases g6 k hk with q|q
  ·exact h7 k q
  ·rw [q];exact hz
def Rec.tree {d r:Nat}{R:List Nat}{a s:aj}{P:Tr->Prop}{i:Nat}(h:Rec d r R a P i s) (hr:r∉R):∃ks ts,TR (vw R s) (.rec_ ks ts) (.ref r)/\ks.Nodup/\ks.length=ts.length/\ts.length<=i/\(∀t∈ts,P t)/\∀k∈ks,a9 k=true:=by
 obtain ⟨ks,ys,ts,h1,h2,h3,h4,h5,h6,h7⟩:=h.ex
 exact ⟨ks,ts,⟨r,ys,rfl,fZ.mpr ⟨hr,h1⟩,h3,by rw [h4];exact h2.len,aP.mono tU _ h2,λk hk=>by have:=jb (h7 k hk);omega⟩,h3,h4,h5,h6,h7⟩
def tY {fs:Ah}{gt:PV->za->Option za}{body:Aj}{e:za}{st s0:aj}(I:Nat->za->aj->Prop) (n:Nat) (hn:n<=1000) (hf:fs e st=.ok [.int (n:Int)] s0) (step:∀i e st,i<n->I i e st->∃e1 e2 aK,gt (.int (i:Int)) e=some e1/\body e1 st=.ok (.nx e2) aK/\I (i+1) e2 aK) (h0:I 0 e s0) :
  ∃e' s',gO (bT fs) gt body e st=.ok (.nx e') s'/\I n e' s':=by
 obtain ⟨e',s',F,h⟩:=CK (g:=gt) (body:=body) I n step n 0 e s0 (by omega) h0
 refine ⟨e',s',?_,h⟩
 rw [xZ,AL,hf,zA,Mv n _ hn,zA,JH]
 exact F
def Ni {d:Nat}:∀(n b:Nat) (st:aj) (R:List Nat),b<n->Dc d st->(∀r∈R,r<st.length)->∃v s1,jF n [.ref d,.int (b:Int)] st=.ok v s1/\Made d R st b (bd b) s1 v:=by
 intro n
 induction n with
 |zero=>intro b st R h;omega
 |succ n ih =>
  intro b st R hb hd hR
  obtain ⟨w,s1,e1,hw,n1⟩:=yS hd 8 (by decide)
  show ∃v s1,sV (jF n) _ _=_/\_
  have bp:=Nd b
  have A:∀{X:Res Fl},BR (jF n) [sR d,sI b,some (.int w),none,none,none] s1=X->pB (jF n) [sR d,sI b,none,none,none,none] st=X:=λh=>zm (zV (zv (zO (zc rfl) rfl) e1)) h
  by_cases c1:w=3\/w=4
  ·obtain ⟨z,s2,e2,hz,n2⟩:=ni n1.dc
   refine ⟨.str z,s2,zK rfl (A (yq (z7 ?_ (zJ (zv (zD (zc rfl)) e2))))),.word z,⟨rfl,by have:=jb hz;omega⟩,hz,by simp [dp],by simp only [sz];omega,n1.trans n2⟩
   rcases c1 with c|c
   ·exact o_ (zn (zk (zc rfl) rfl (a6 true (by simp;omega) _)))
   ·exact jw (zn (zk (zc rfl) rfl (a6 false (by simp;omega) _))) (zn (zk (zc rfl) rfl (a6 true (by simp;omega) _)))
  have B:∀{X:Res Fl},BQ (jF n) [sR d,sI b,some (.int w),none,none,none] s1=X->pB (jF n) [sR d,sI b,none,none,none,none] st=X:=λh=>A (zm (zG (jw (zn (zk (zc rfl) rfl (a6 false (by simp;omega) _))) (zn (zk (zc rfl) rfl (a6 false (by simp;omega) _))))) h)
  by_cases c2:0<b/\(w=5\/w=6)
  ·obtain ⟨m,s2,e2,hm,n2⟩:=yS n1.dc 4 (by decide)
   obtain ⟨b',rfl⟩:∃b',b=b'+1:=⟨b-1,by omega⟩
   have ee:((b'+1:Nat):Int)-1=(b':Int):=by omega
   obtain ⟨ys,s3,C,ts,q1,q2,q3,q4⟩:=pQ (fe:=(zo (jF n) (ze (zb 1) (ze (zf j4 (zb 2) (Ar 1)) zg)))) (fs:=(ze (zo yF (ze (zb 0) (ze (Ar 4) zg))) zg)) (env:=[sR d,some (.int ((b'+1:Nat):Int)),some (.int w),none,none,none]) (st:=s1) m (by omega) (zD (zv (zO (zc rfl) rfl) e2))
    (λi ys s=>∃ts,aP (vw R s) ts ys/\ts.length=i/\(∀t∈ts,gd t/\dp t<=b'/\sz t<=bd b')/\Nx d s2 s) (λi ys s hi ⟨ts,h1,h2,h3,h4⟩=>by
     obtain ⟨v,s4,e4,t,k1,k2,k3,k4,k5⟩:=ih b' s R (by omega) h4.dc (λr hr=>(n1.trans (n2.trans h4)).lt (hR r hr))
     refine ⟨v,s4,zv (zO (zc rfl) (zk (zc rfl) rfl ((gU _ _).trans (by rw [ee])))) e4,ts++[t],(aP.mono (k5.vw h4.dc) _ h1).append ⟨v,[],rfl,k1,rfl⟩,by simp [h2],λu hu=>?_,h4.trans k5⟩
     rcases j2.mp hu with q|q
     ·exact h3 u q
     ·rw [hU.mp q];exact ⟨k2,k3,k4⟩) ⟨[],rfl,rfl,(λ_ h=>nomatch h),Nx.refl n2.dc⟩
   have o4:=yp s3 [SO.lst ys]
   refine ⟨.tup ys,s3++[.lst ys],zK rfl (B (yq (z7 (fB (zn (zk (zc rfl) rfl (dq true (by simp<;>omega) _))) ?_) (zJ (zv (zD C) (by rw [rS,yH (yo _ _)])))))),.row ts,⟨ys,rfl,aP.mono (tQ o4) _ q1⟩,jO.mpr λt ht=>(q3 t ht).1,?_,?_,(n1.trans n2).trans (q4.trans (Nx.of q4.dc o4))⟩
   ·rcases c2.2 with c|c
    ·exact o_ (zn (zk (zc rfl) rfl (a6 true (by simp;omega) _)))
    ·exact jw (zn (zk (zc rfl) rfl (a6 false (by simp;omega) _))) (zn (zk (zc rfl) rfl (a6 true (by simp;omega) _)))
   ·have:=iY (ts:=ts) λt ht=>(q3 t ht).2.1
    simp only [dp];omega
   ·have:=tX (ts:=ts) λt ht=>(q3 t ht).2.2
    have:ts.length*bd b'<=3*bd b':=Nat.mul_le_mul_right _ (by omega)
    simp only [sz,bd];omega
  have C:∀{X:Res Fl},BP (jF n) [sR d,sI b,some (.int w),none,none,none] s1=X->pB (jF n) [sR d,sI b,none,none,none,none] st=X:=λh=>B (zm (zG (by
   by_cases hb0:0<b
   ·exact fB (zn (zk (zc rfl) rfl (dq true (by simp;omega) _))) (jw (zn (zk (zc rfl) rfl (a6 false (by simp;omega) _))) (zn (zk (zc rfl) rfl (a6 false (by simp;omega) _))))
   ·exact lr (zn (zk (zc rfl) rfl (dq false (by simp;omega) _))))) h)
  by_cases c3:0<b/\w=7
  ·have nA:Nx d s1 (s1++[.dic [] []]):=Nx.of n1.dc (yp _ _)
   obtain ⟨m,s2,e2,hm,n2⟩:=yS nA.dc 4 (by decide)
   obtain ⟨b',rfl⟩:∃b',b=b'+1:=⟨b-1,by omega⟩
   have ee:((b'+1:Nat):Int)-1=(b':Int):=by omega
   have ia:d<s1.length:=by obtain ⟨l,q⟩:=n1.dc;exact yr q
   have Nj:s2[s1.length]?=some (.dic [] []):=n2.ob _ _ (by omega) (yo _ _)
   obtain ⟨e',s3,F,⟨z4,z5,he⟩,Rc⟩:=tY (gt:=gN 4) (body:=(zt (zQ 5 (zo gZ (ze (zb 0) zg))) (wJ (zb 3) (zb 5) (zo (jF n) (ze (zb 0) (ze (zf j4 (zb 1) (Ar 1)) zg)))))) (fs:=(ze (zo yF (ze (zb 0) (ze (Ar 4) zg))) zg)) (e:=[sR d,some (.int ((b'+1:Nat):Int)),some (.int w),sR s1.length,none,none]) (st:=s1++[.dic [] []])
    (λi e s=>(∃z4 z5,e=[sR d,some (.int ((b'+1:Nat):Int)),some (.int w),sR s1.length,z4,z5])/\Rec d s1.length R s1 (λt=>gd t/\dp t<=b'/\sz t<=bd b') i s) m (by omega) (zD (zv (zO (zc rfl) rfl) e2)) (λi e s hi ⟨⟨z4,z5,he⟩,Rc⟩=>by
     subst he
     obtain ⟨z,s4,e4,hz,n4⟩:=ni Rc.nx.dc
     have Nk:s1.length<s.length:=by obtain ⟨ks,ys,ts,h1,_⟩:=Rc.ex;exact yr h1
     obtain ⟨v,s5,e5,t,k1,k2,k3,k4,k5⟩:=ih b' s4 (s1.length::R) (by omega) n4.dc (λr hr=>by
      rcases yn.mp hr with q|q
      ·rw [q];exact n4.lt Nk
      ·exact (n1.trans (Rc.nx.trans n4)).lt (hR r q))
     have Nl:Rec d s1.length R s1 (λt=>gd t/\dp t<=b'/\sz t<=bd b') i s4:=by
      obtain ⟨ks,ys,ts,h1,h2,h3⟩:=Rc.ex
      exact ⟨Rc.nx.trans n4,ks,ys,ts,n4.ob _ _ (by omega) h1,aP.mono (n4.vw Rc.nx.dc) _ h2,h3⟩
     obtain ⟨s6,e6,Nm⟩:=Nl.put (by omega) (z0 _) ia k5 k1 ⟨k2,k3,k4⟩ hz (fo:=zb 3) (fi:=zb 5) (fv:=(zo (jF n) (ze (zb 0) (ze (zf j4 (zb 1) (Ar 1)) zg)))) (e:=[sR d,some (.int ((b'+1:Nat):Int)),some (.int w),sR s1.length,sI i,some (.str z)]) (zv (zO (zc rfl) (zk (zc rfl) rfl ((gU _ _).trans (by rw [ee])))) e5) (zc rfl) (zc rfl)
     exact ⟨_,_,s6,rfl,zm (zV (zv (zD (zc rfl)) e4)) e6,⟨_,_,rfl⟩,Nm⟩) ⟨⟨none,none,rfl⟩,nA.trans n2,[],[],[],Nj,rfl,.nil,rfl,z0 _,(λ_ h=>nomatch h),(λ_ h=>nomatch h)⟩
   subst he
   have Nn:s1.length∉R:=λh=>by
    have:=hR _ h
    have:=n1.lt this
    omega
   obtain ⟨ks,ts,q1,q2,q3,q4,q5,q6⟩:=Rc.tree Nn
   refine ⟨.ref s1.length,s3,zK rfl (C (yq (z7 (fB (zn (zk (zc rfl) rfl (dq true (by simp<;>omega) _))) (zn (zk (zc rfl) rfl (a6 true (by simp;omega) _)))) (zm (zV rfl) (zm F (zJ (zc rfl))))))),.rec_ ks ts,q1,⟨q2,q3,q6,jO.mpr λt ht=>(q5 t ht).1⟩,?_,?_,n1.trans Rc.nx⟩
   ·have:=iY (ts:=ts) λt ht=>(q5 t ht).2.1
    simp only [dp];omega
   ·have:=tX (ts:=ts) λt ht=>(q5 t ht).2.2
    have:ts.length*bd b'<=3*bd b':=Nat.mul_le_mul_right _ (by omega)
    simp only [sz,bd];omega
  obtain ⟨i,s2,e2,hi,n2⟩:=M6 n1.dc
  refine ⟨.int i,s2,zK rfl (C (zm (zG (by
   by_cases hb0:0<b
   ·exact fB (zn (zk (zc rfl) rfl (dq true (by simp;omega) _))) (zn (zk (zc rfl) rfl (a6 false (by simp;omega) _)))
   ·exact lr (zn (zk (zc rfl) rfl (dq false (by simp;omega) _))))) (zJ (zv (zD (zc rfl)) e2)))),.num i,rfl,hi,by simp [dp],by simp only [sz];omega,n1.trans n2⟩
def Np (ns:List Int) (st:aj):∃d s1,sS [.frl (ns.map PV.int)] st=.ok (.ref d) s1/\Dc d s1:=by
 have C8:cH (ns.map PV.int) none (some 180)=(ns.take 180).map PV.int:=by
  unfold cH
  simp [HT.sIx]
 let a:=st++[SO.lst ((ns.take 180).map PV.int)]
 obtain ⟨ys,s1,C,⟨cs,hy,hc⟩,hs⟩:=tH (fe:=(zf yK (zb 0) (Ar 2305843009213693951))) (env:=[some (.frl (ns.map PV.int)),none,none,none,none,none]) (n:=st.length) ((ns.take 180).map PV.int) (λi ys s=>(∃cs:List Int,ys=cs.map PV.int/\cs.length=i)/\s=a) (λi ys s h=>by rw [h.2];exact yo _ _) (λi x ys s hx ⟨⟨cs,h1,h2⟩,h3⟩=>by
  rw [y7] at hx
  cases e:(ns.take 180)[i]? with
  |none=>rw [e] at hx;cases hx
  |some c =>
   rw [e] at hx
   cases hx
   exact ⟨.int (jL c 2305843009213693951),s,zk (zc rfl) rfl (gW _ _ (by decide)),⟨cs++[jL c 2305843009213693951],by rw [h1,y8];rfl,by simp [h2]⟩,h3⟩) ((ns.take 180).map PV.int).length 0 (lim+1) [] a (by omega) (by simp [lim];omega) ⟨⟨[],rfl,rfl⟩,rfl⟩
 subst hs
 have C2:(yU (jE (jC (zb 0) bW (bA (Ar 180)))) (zf yK (zb 0) (Ar 2305843009213693951))) [some (.frl (ns.map PV.int)),none,none,none,none,none] st=.ok (.ref a.length) (a++[.lst ys]):=by
  rw [gQ,k_,ww (zc rfl) fC (jY rfl) (JC ..),C8]
  simp only [zA,eW]
  rw [yH (yo _ _)]
  exact C
 have hl:cs.length<=180:=by rw [hc];simp;omega
 let b:=a++[SO.lst ys]
 have hb:(b++[SO.lst []])[a.length]?=some (.lst (cs.map PV.int)):=by rw [<-hy];exact yp _ _ _ _ (yo _ _)
 obtain ⟨e',s',F,⟨z3,z4,z5,he⟩,h1,l,h2,h3⟩:=tY (gt:=gN 3) (body:=(zt (zQ 4 (Ar 1))
  (zt (zM (mB (zf jS (zo yz (ze (zb 1) zg)) (Ar 0)))
  (zQ 4 (zf z9 (zb 1) (zf yK (zb 3) (zo yz (ze (zb 1) zg)))))
  zN)
  (zt (zQ 5 (zf jk (zf yK (zb 4) (Ar 2147483629)) (zf zB (zf jk (Ar 2) (zb 3)) (Ar 1))))
  (jD (wt gP (zb 2) (zf yK (zf zB (zf zB (zb 5) (zf wZ (zb 4) (Ar 65537))) (zf jk (zf jk (Ar 7919) (zb 3)) (zb 3))) (Ar 2147483647)))))))) (fs:=(ze (Ar 180) zg)) (e:=[some (.frl (ns.map PV.int)),sR a.length,sR b.length,none,none,none]) (st:=b++[.lst []])
  (λi e s=>(∃z3 z4 z5,e=[some (.frl (ns.map PV.int)),sR a.length,sR b.length,z3,z4,z5])/\s[a.length]?=some (.lst (cs.map PV.int))/\∃l:List Int,s[b.length]?=some (.lst (l.map PV.int))/\l.length=i) 180 (by decide) rfl (λi e s hi ⟨⟨z3,z4,z5,he⟩,h1,l,h2,h3⟩=>by
   subst he
   have key:∃c:Int,(zM (mB (zf jS (zo yz (ze (zb 1) zg)) (Ar 0))) (zQ 4 (zf z9 (zb 1) (zf yK (zb 3) (zo yz (ze (zb 1) zg))))) zN) [some (.frl (ns.map PV.int)),sR a.length,sR b.length,sI i,some (.int 1),z5] s=.ok (.nx [some (.frl (ns.map PV.int)),sR a.length,sR b.length,sI i,some (.int c),z5]) s:=by
    have L:=o9 h1
    rw [yX] at L
    by_cases h0:0<cs.length
    ·obtain ⟨k,hk,ek⟩:=eJ (i:Int) cs.length h0
     have g:cN (cs.map PV.int) (k:Int)=some (.int (cs[k]'hk)):=bO (by rw [y7,yc hk];rfl)
     exact ⟨cs[k]'hk,z7 (zn (zk (zv (zD (zc rfl)) L) rfl (dq true (by simp;omega) _))) (zV (zk (zc rfl) (zk (zc rfl) (zv (zD (zc rfl)) L) ((gW _ _ (by omega)).trans (by rw [ek]))) (by rw [o5,yH h1,g];rfl)))⟩
    ·exact ⟨1,zG (zn (zk (zv (zD (zc rfl)) L) rfl (dq false (by rw [decide_eq_false_iff_not];omega) _)))⟩
   obtain ⟨c,K⟩:=key
   refine ⟨[some (.frl (ns.map PV.int)),sR a.length,sR b.length,sI i,z4,z5],_,_,rfl,zm (zV rfl) (zm K (zm (zV (zk (zk (zc rfl) rfl (gW _ _ (by decide))) (zk (zk rfl (zc rfl) (gX _ _ (by simp [cx]))) rfl (jl _ _)) (gX _ _ (by simp only [cx,Bool.or_eq_true,yC,yZ];exact .inr ⟨by omega,by omega⟩)))) (jX (pe (zc rfl) h2 (zk (zk (zk (zc rfl) (zk (zc rfl) rfl (sf _ _ (by decide) (by decide))) (jl _ _)) (zk (zk rfl (zc rfl) (gX _ _ (by simp [cx]))) (zc rfl) (gX _ _ (by simp only [cx,Bool.or_eq_true,yC,yZ];exact .inr ⟨by omega,by omega⟩))) (jl _ _)) rfl (gW _ _ (by decide))) (by rw [rT,yH h2,zj (by simp [lim];omega)]))))),⟨_,_,_,rfl⟩,?_,l++[jL (jL c 2147483629*(2*(i:Int)+1)+wY c 65537+7919*(i:Int)*(i:Int)) 2147483647],?_,by simp [h3]⟩
   ·rw [yI (by simp [b])]
    exact h1
   ·rw [jr (yr h2),y8]
    rfl) ⟨⟨none,none,none,rfl⟩,hb,[],yo _ _,rfl⟩
 subst he
 exact ⟨b.length,s',zK rfl (zm (zV C2) (zm (zV (wv yE (by simp))) (zm F (zJ (zc rfl))))),l,h2⟩
def kH (l:List Nat) (i:Nat):Str:=⟨((l.drop i).take 1).toArray⟩
def Nq {l:List Nat}{i:Nat}(h:l[i]?=none):kH l i=⟨#[]⟩:=by
 unfold kH
 rw [List.drop_eq_nil_of_le (hW.mp h)]
 rfl
def Nr {z:Str}{i:Nat}(h:i<=z.length):PySem.Txt.slice z (some (i:Int)) (some ((i:Int)+1))=kH z.cps.toList i:=by
 have hl:z.cps.toList.length=z.length:=by simp [Str.length]
 by_cases hi:i<z.length
 ·have e:=beq_iff_eq.mp (PyProof.Rows.slice_closesL (x:=z) (i:=(i:Int)) (j:=(i:Int)+1) (by omega) (by omega) (by omega))
  rw [e]
  have e1:((i:Int)).toNat=i:=by omega
  have e2:((i:Int)+1-(i:Int)).toNat=1:=by omega
  rw [e1,e2]
  rfl
 ·have e:i=z.length:=by omega
  have hn:z.cps.toList[i]?=none:=hW.mpr (by omega)
  rw [Nq hn]
  subst e
  have nj:PySem.Builtin.Str.strSliceIndices (some (z.length:Int)) (some ((z.length:Int)+1)) 1 z.length=[]:=by
   unfold PySem.Builtin.Str.strSliceIndices PySem.sliceRange
   have a1:¬((z.length:Int)<0):=by omega
   have a2:¬((z.length:Int)+1<0):=by omega
   have a3:min ((z.length:Int)+1) (z.length:Int)=(z.length:Int):=by omega
   have a4:min (z.length:Int) (z.length:Int)=(z.length:Int):=by omega
   have a5:max 0 (z.length:Int)=(z.length:Int):=by omega
   simp only [show (1:Int)>0 by decide,jH,zx a1,zx a2,a3,a4,a5]
   rw [zx (Int.lt_irrefl _)]
   rfl
  unfold PySem.Txt.slice
  rw [nj]
  by_cases h0:z.length=0
  ·have:z=⟨#[]⟩:=by
    cases z with
    |mk a =>
     have:a.size=0:=h0
     have:a=#[]:=Array.eq_empty_of_size_eq_zero this
     rw [this]
   rw [this]
   rfl
  ·rw [zx (by
    intro c
    simp only [yC,beq_iff_eq,List.length_nil] at c
    omega)]
   rfl
def Nt {z:Str}{i k:Nat}(h1:i<=k) (h2:k<=z.length):PySem.Txt.slice z (some (i:Int)) (some (k:Int))=⟨((z.cps.toList.drop i).take (k-i)).toArray⟩:=by
 have e:=beq_iff_eq.mp (PyProof.Rows.slice_closesL (x:=z) (i:=(i:Int)) (j:=(k:Int)) (by omega) (by omega) (by omega))
 rw [e]
 have e1:((i:Int)).toNat=i:=by omega
 have e2:((k:Int)-(i:Int)).toNat=k-i:=by omega
 rw [e1,e2]
abbrev rd (L:List Nat) (p b:Nat):SO:=.ins "ValueReader" ["text", "place", "begun"] [.str (S L),.int (p:Int),.int (b:Int)]
section
variable {o p b:Nat} {L:List Nat} {s s1:aj} {e:za}
def g7:insOf "ValueReader" = true:=by simp [insOf]
def ka (h:s[o]?=some (rd L p b)):bo "text" insOf excOf (.ref o) s=.ok (.str (S L)) s:=by
 show yG s o _=_
 unfold yG
 rw [h]
 simp only [g7,jH]
 rfl
def wP (h:s[o]?=some (rd L p b)):bo "place" insOf excOf (.ref o) s=.ok (.int (p:Int)) s:=by
 show yG s o _=_
 unfold yG
 rw [h]
 simp only [g7,jH]
 rfl
def tZ (h:s[o]?=some (rd L p b)):bo "begun" insOf excOf (.ref o) s=.ok (.int (b:Int)) s:=by
 show yG s o _=_
 unfold yG
 rw [h]
 simp only [g7,jH]
 rfl
def C9 {f:Str} {xs:An} {i:Int} {X:SO} (ho:e[0]?=some (sR o)) (h:s[o]?=some (.ins "ValueReader" ["text", "place", "begun"] xs)) (hl:((["text", "place", "begun"]:Ad).zip xs).lookup f=some (.int i)) (hX:SO.ins "ValueReader" (putK f (.int (i+1)) ["text", "place", "begun"] xs).1 (putK f (.int (i+1)) ["text", "place", "begun"] xs).2=X):w9 f insOf (zb 0) (Ar 1) e s=.ok (.nx e) (s.set o X):=by
 unfold w9
 rw [zc ho,zA]
 show yG s o _=_
 unfold yG
 rw [h]
 simp only [g7,jH,hl]
 show yG s o _=_
 unfold yG
 rw [h]
 simp only
 rw [zj ⟨trivial,by decide⟩,hX]
def t_ (ho:e[0]?=some (sR o)) (h:s[o]?=some (rd L p b)):w9 "place" insOf (zb 0) (Ar 1) e s=.ok (.nx e) (s.set o (rd L (p+1) b)):=C9 (i:=(p:Int)) ho h rfl rfl
def ua (ho:e[0]?=some (sR o)) (h:s[o]?=some (rd L p b)):w9 "begun" insOf (zb 0) (Ar 1) e s=.ok (.nx e) (s.set o (rd L p (b+1))):=C9 (i:=(b:Int)) ho h rfl rfl
def yg {name:Str} {tab:Str->Option (Al)} {fo:Ai} {fs:Ah} {m:Al} {ys:An} {X:Res PV} (ho:fo e s=.ok (.ref o) s) (h:s[o]?=some (rd L p b)) (hn:name∉(["text", "place", "begun"]:Ad)) (ht:tab "ValueReader" = some m) (hf:fs e s=.ok ys s1) (hm:m (.ref o::ys) s1=X):yk name tab fo fs e s=X:=by
 unfold yk
 rw [ho,zA]
 show yG s o _=_
 unfold yG
 rw [h]
 simp only
 rw [zx hn,ht]
 simp only
 rw [hf,zA,hm]
def pR {m n:Nat}{g:Aj}{xs:An}{st r:aj}{e:za}(hl:xs.length=m) (h:g (xs.map some++List.replicate (n-m) none) st=.ok (.nx e) r):z6 m n g xs st=.ok .non r:=by
 unfold z6
 rw [zj hl,h,zA];rfl
def jg {l r:List Nat}{i:Nat}(h:L.drop p=l++r) (hp:p<=L.length):p+l.length<=L.length:=by
 have:=congrArg List.length h
 simp at this;omega
def jG {l r:List Nat}(h:L.drop p=l++r):L.drop (p+l.length)=r:=by
 rw [<-List.drop_drop,h,List.drop_left]
def Nu (hp:p<=L.length) (hl:L.length<=100000):k7 (.str (S L)) (some (p:Int)) (some ((p:Int)+1)) s=.ok (.str (S ((L.drop p).take 1))) s:=by
 show (if (S L).length<=lim then _ else _)=_
 rw [zj (by rw [yR];simp [lim];omega),Nr (by rw [yR];exact hp)]
 simp [kH]
def pS (h:s[o]?=some (rd L p b)) (hp:p<=L.length) (hl:L.length<=100000):m_ValueReader_sign_here [.ref o] s=.ok (.str (S ((L.drop p).take 1))) s :=
 zK rfl (zJ (ww (yL (zc rfl) (ka h)) (jY (yL (zc rfl) (wP h))) (jY (zk (yL (zc rfl) (wP h)) rfl (jl _ _))) (Nu hp hl)))
def C_ {a c:List Nat}(h:S a=S c):a=c:=by have:=congrArg (λz:Str=>z.cps.toList) h;simpa [S] using this
def pT {x y:Str}(c:Bool) (h:decide (x=y)=c) (st:aj):k6 (.str x) (.str y) st=.ok (.bl (!c)) st:=by rw [Ku,h]
def jo {c:Nat}{r:List Nat}(h:s[o]?=some (rd L p b)) (hp:p<=L.length) (hl:L.length<=100000) (hd:L.drop p=c::r):m_ValueReader_passes [.ref o,.str (S [c])] s=.ok (.bl true) (s.set o (rd L (p+1) b)) :=
 zK rfl (zm (zG (zn (zk (yg (zc rfl) h (by decide) (zj rfl) yE (pS h hp hl)) (zc rfl) (pT true (by rw [hd];simp) s)))) (zm (t_ rfl h) (zJ rfl)))
def jh {c:Nat}(h:s[o]?=some (rd L p b)) (hp:p<=L.length) (hl:L.length<=100000) (hd:(L.drop p).take 1≠[c]):m_ValueReader_passes [.ref o,.str (S [c])] s=.ok (.bl false) s :=
 zK rfl (yq (z7 (zn (zk (yg (zc rfl) h (by decide) (zj rfl) yE (pS h hp hl)) (zc rfl) (pT false (by rw [decide_eq_false_iff_not];exact λe=>hd (C_ e)) s))) (zJ rfl)))
def lI {c:Nat}{r:List Nat}(h:s[o]?=some (rd L p b)) (hp:p<=L.length) (hl:L.length<=100000) (hd:L.drop p=c::r):m_ValueReader_pass_sign [.ref o,.str (S [c])] s=.ok .non (s.set o (rd L (p+1) b)) :=
 pR rfl (zm (zG (zn (zk (yg (zc rfl) h (by decide) (zj rfl) yE (pS h hp hl)) (zc rfl) (pT true (by rw [hd];simp) s)))) (t_ rfl h))
end
structure Go (o:Nat) (L:List Nat) (s s':aj) (p b:Nat):Prop where
 at_:s'[o]?=some (rd L p b)
 ob:Ob o s s'
section
variable {o p b:Nat} {L:List Nat} {s s1:aj} {e:za}
theorem Go.set {p' b':Nat}(h:s[o]?=some (rd L p b)):Go o L s (s.set o (rd L p' b')) p' b':=⟨jr (yr h),CJ o s _⟩
def Go.refl (h:s[o]?=some (rd L p b)):Go o L s s p b:=⟨h,λ_ _ _ e=>e⟩
theorem Go.trans {s2:aj}{p1 b1 p2 b2:Nat}(h:Go o L s s1 p1 b1) (h':Go o L s1 s2 p2 b2):Go o L s s2 p2 b2:=⟨h'.at_,h.ob.trans h'.ob⟩
def Go.old {s2:aj}(h:s[o]?=some (rd L p b)) (o':Old s s2):Go o L s s2 p b:=⟨o' _ _ h,CI o'⟩
def Go.lt {p1 b1:Nat}(h:Go o L s s1 p1 b1) {n:Nat}(hn:n<s.length):n<s1.length:=by
 by_cases e:n=o
 ·rw [e];exact yr h.at_
 ·exact yr (h.ob n _ e (yc hn))
theorem Go.vw {p1 b1:Nat}{R:List Nat}(h:Go o L s s1 p1 b1) (hs:s[o]?=some (rd L p b)):Dk (FK22.vw R s) (FK22.vw R s1):=j_ λn ks xs hn e=>⟨hn,h.ob n _ (λq=>by rw [q,hs] at e;cases e) e⟩
def cB {c:Nat}(hl:L.length<=100000) (h:L[p]?=some c):z9 (.str (S L)) (.int (p:Int)) s=.ok (.str ⟨#[c]⟩) s:=by
 rw [AK,zj (by rw [yR];simp [lim];omega)]
 have:(S L).cps.toList=L:=by simp [S]
 rw [this,bO h]
 rfl
def len_str (hl:L.length<=100000):yz [.str (S L)] s=.ok (.int (L.length:Int)) s:=by
 show (if (S L).length<=lim then _ else _)=_
 rw [zj (by rw [yR];simp [lim];omega),yR]
abbrev tR:Ak:=(wF (mB (zf wH (yJ (bo "place" insOf excOf) (zb 0)) (zo yz (ze (yJ (bo "text" insOf excOf) (zb 0)) zg)))) (mB (zf (jv false) (zf z9 (yJ (bo "text" insOf excOf) (zb 0)) (yJ (bo "place" insOf excOf) (zb 0))) (zb 1))))
def jp {c:Nat}{r:List Nat}(h:L.drop p=c::r):L[p]?=some c/\p<L.length/\L.drop (p+1)=r:=by
 have bg:p<L.length:=by
  rcases Nat.lt_or_ge p L.length with q|q
  ·exact q
  ·rw [kJ q] at h;cases h
 rw [fJ bg] at h
 injection h with h1 h2
 exact ⟨by rw [yc bg,h1],bg,h2⟩
def in_str (c:Nat) (z:Str):jv false (.str ⟨#[c]⟩) (.str z) s=.ok (.bl (decide (c∈z.cps.toList))) s:=by
 show Res.ok (PV.bl (false.xor (decide (c∈z.cps.toList)))) s=_
 simp
theorem Dd {sg:Str}{x:Option PV}{r:List Nat}(hl:L.length<=100000) (hr:r=[]\/∃c r',r=c::r'/\c∉sg.cps.toList):∀(w:List Nat) (p fuel:Nat) (s:aj),s[o]?=some (rd L p b)->p<=L.length->L.drop p=w++r->(∀c∈w,c∈sg.cps.toList)->w.length<fuel ->
  ∃s',bB tR (w9 "place" insOf (zb 0) (Ar 1)) fuel [sR o,some (.str sg),x] s=.ok (.nx [sR o,some (.str sg),x]) s'/\Go o L s s' (p+w.length) b
 |[],p,fuel,s,h,hp,hd,_,hf=>by
  obtain ⟨f,rfl⟩:∃f,fuel=f+1:=⟨fuel-1,by simp at hf;omega⟩
  refine ⟨s,?_,Go.refl h⟩
  rw [jj]
  have T:tR [sR o,some (.str sg),x] s=.ok false s:=by
   rcases hr with q|⟨c,r',q,hc⟩
   ·have:p=L.length:=by
     rw [q] at hd
     have:=congrArg List.length hd
     simp at this;omega
    exact lr (zn (zk (yL (zc rfl) (wP h)) (zv (zD (yL (zc rfl) (ka h))) (len_str hl)) (g0 false (by simp;omega) _)))
   ·rw [q] at hd
    obtain ⟨g1,g2,_⟩:=jp hd
    exact fB (zn (zk (yL (zc rfl) (wP h)) (zv (zD (yL (zc rfl) (ka h))) (len_str hl)) (g0 true (by simp;omega) _))) (zn (zk (zk (yL (zc rfl) (ka h)) (yL (zc rfl) (wP h)) (cB hl g1)) (zc rfl) ((in_str c sg).trans (by rw [js hc]))))
  rw [T,zA]
  rfl
 |c::w,p,fuel,s,h,hp,hd,ha,hf=>by
  obtain ⟨f,rfl⟩:∃f,fuel=f+1:=⟨fuel-1,by simp at hf;omega⟩
  obtain ⟨g1,g2,g3⟩:=jp hd
  have T:tR [sR o,some (.str sg),x] s=.ok true s:=fB (zn (zk (yL (zc rfl) (wP h)) (zv (zD (yL (zc rfl) (ka h))) (len_str hl)) (g0 true (by simp;omega) _))) (zn (zk (zk (yL (zc rfl) (ka h)) (yL (zc rfl) (wP h)) (cB hl g1)) (zc rfl) ((in_str c sg).trans (by rw [wf (ha c (zY ..))]))))
  have G:Go o L s (s.set o (rd L (p+1) b)) (p+1) b:=Go.set h
  obtain ⟨s',e',G'⟩:=Dd hl hr w (p+1) f (s.set o (rd L (p+1) b)) G.at_ (by omega) g3 (λd hd=>ha d (yd _ hd)) (by simp at hf;omega)
  refine ⟨s',?_,by rw [yA,show p+(w.length+1)=p+1+w.length by omega];exact G.trans G'⟩
  rw [jj,T,zA,zj rfl,t_ rfl h,zA]
  exact e'
def nr {sg:Str}{w r:List Nat}(h:s[o]?=some (rd L p b)) (hp:p<=L.length) (hl:L.length<=100000) (hd:L.drop p=w++r) (ha:∀c∈w,c∈sg.cps.toList) (hr:r=[]\/∃c r',r=c::r'/\c∉sg.cps.toList):∃s',m_ValueReader_run_of [.ref o,.str sg] s=.ok (.str (S w)) s'/\Go o L s s' (p+w.length) b:=by
 have hw:=jg (i:=0) hd hp
 obtain ⟨s',e',G⟩:=Dd (x:=sI p) hl hr w p lim s h hp hd ha (by simp [lim];omega)
 refine ⟨s',zK rfl (zm (zV (yL (zc rfl) (wP h))) (zm e' (zJ (ww (yL (zc rfl) (ka G.at_)) (jY (zc rfl)) (jY (yL (zc rfl) (wP G.at_))) ?_)))),G⟩
 show (if (S L).length<=lim then _ else _)=_
 rw [zj (by rw [yR];simp [lim];omega),Nt (by omega) (by rw [yR];omega)]
 have:(S L).cps.toList=L:=by simp [S]
 rw [this,hd,show p+w.length-p=w.length by omega,List.take_left]
def lJ {fa fb fc:Ai}{i j k:Int}(h1:fa e s=.ok (.int i) s) (h2:fb e s=.ok (.int j) s) (h3:fc e s=.ok (.int k) s) (cA:i<=j) (c:Bool) (hc:decide (j<=k)=c):jI wm wm fa fb fc e s=.ok (.bl c) s:=by
 unfold jI
 rw [h1,zA,h2,zA,si,zA,wf cA,mJ,zA,zj rfl,h3,zA,si,hc]
def Nv {z:Str}(h:a9 z=true):∃s1,pH [.str z] s=.ok (.bl true) s1/\Old s s1:=by
 have hz:=jb h
 have hc:∀c∈z.cps.toList,c∈abc.cps.toList:=by
  simp only [a9,yC,List.all_eq_true,yZ] at h
  exact h.2
 have hn:(signs z).length=z.length:=by simp [signs,Str.length]
 obtain ⟨ys,s1,C,hy,hs⟩:=iX (fe:=(zf (jv false) (zb 0) (As "abcdefghijklmnopqrstuvwxyz"))) (env:=[some (.str z)]) (signs z) (λi ys s'=>ys=(List.replicate i true).map PV.bl/\s'=s) (λi x ys s' hx ⟨h1,h2⟩=>by
  unfold signs at hx
  rw [y7] at hx
  cases e:z.cps.toList[i]? with
  |none=>rw [e] at hx;cases hx
  |some c =>
   rw [e] at hx
   cases hx
   refine ⟨.bl true,s',zk (zc rfl) rfl ((in_str c _).trans (by rw [wf (hc c (jy e))])),?_,h2⟩
   rw [h1,List.replicate_succ',y8];rfl) (signs z).length 0 [] s (by omega) ⟨rfl,rfl⟩
 subst hs
 refine ⟨s1++[.lst ys],?_,yp _ _⟩
 have A:=se (st:=s1++[.lst ys]) (n:=s1.length) (bs:=List.replicate (signs z).length true) (by rw [<-hy];exact yo _ _)
 rw [m5] at A
 have is:yv [.str z,.ty "str"] s1=.ok (.bl true) s1:=rfl
 have ln:yz [.str z] s1=.ok (.int (z.length:Int)) s1:=by
  show (if z.length<=lim then _ else _)=_
  rw [zj (by simp [lim];omega)]
 refine zK rfl (zm (zG (jw (ja (b:=true) (zn (zv (zO (zc rfl) rfl) is))) (ja (b:=true) (zn (lJ rfl (zv (zD (zc rfl)) ln) rfl (by omega) true (by simp;omega)))))) (zJ (zv (zD ?_) A)))
 rw [gQ]
 show cU _ _ (.im (signs z)) s1=_
 rw [lg,zj (by rw [hn];simp [lim];omega)]
 exact C
def Stop (r:List Nat):Prop:=r=[]\/∃c r',r=c::r'/\(c=44\/c=93\/c=125\/c=58)
def Stop.abc {r:List Nat} (h:Stop r):r=[]\/∃c r',r=c::r'/\c∉("abcdefghijklmnopqrstuvwxyz" : Str).cps.toList:=h.imp id λ⟨c,r',e,hc⟩=>⟨c,r',e,by
 rcases hc with q|q|q|q<;>(subst q;decide +kernel)⟩
def Stop.fig {r:List Nat} (h:Stop r):r=[]\/∃c r',r=c::r'/\c∉("0123456789" : Str).cps.toList:=h.imp id λ⟨c,r',e,hc⟩=>⟨c,r',e,by
 rcases hc with q|q|q|q<;>(subst q;decide +kernel)⟩
def ub {z:Str}{r:List Nat}(h:s[o]?=some (rd L p b)) (hp:p<=L.length) (hl:L.length<=100000) (hd:L.drop p=z.cps.toList++r) (hz:a9 z=true) (hr:r=[]\/∃c r',r=c::r'/\c∉abc.cps.toList):∃s',m_ValueReader_read_word [.ref o] s=.ok (.str z) s'/\Go o L s s' (p+z.cps.toList.length) b:=by
 have hc:∀c∈z.cps.toList,c∈abc.cps.toList:=by
  simp only [a9,yC,List.all_eq_true,yZ] at hz
  exact hz.2
 obtain ⟨s1,e1,G1⟩:=nr (sg := "abcdefghijklmnopqrstuvwxyz") h hp hl hd hc hr
 rw [jZ] at e1
 obtain ⟨s2,e2,o2⟩:=Nv (s:=s1) hz
 exact ⟨s2,zK rfl (zm (zV (yg (zc rfl) h (by decide) (zj rfl) (zD rfl) e1)) (zm (zG (ja (b:=true) (zn (zv (zD (zc rfl)) e2)))) (zJ (zc rfl)))),G1.trans (Go.old G1.at_ o2)⟩
def De {m c:Nat} (h:c∈dg m):c∈("0123456789" : Str).cps.toList:=by
 have:=lG m c h
 have e:("0123456789" : Str).cps.toList=[48,49,50,51,52,53,54,55,56,57]:=by decide +kernel
 rw [e]
 simp;omega
def Df {m:Nat}(h:m<10 ^ 18):lA [.str (S (dg m))] s=.ok (.int (m:Int)) s:=by
 have:=m7 h
 unfold lA
 simp only [MM h]
 rw [zj (by rw [yR];omega)]
def uc:("-" : Str)=S [45]:=by decide +kernel
def pU:("0" : Str)=⟨#[48]⟩:=by decide +kernel
def ud {i:Int} {r:List Nat} (h:s[o]?=some (rd L p b)) (hp:p<=L.length) (hl:L.length<=100000) (hd:L.drop p=sgn i++r) (g:gd (.num i)) (hr:r=[]\/∃c r',r=c::r'/\c∉("0123456789" : Str).cps.toList):∃s',m_ValueReader_read_number [.ref o] s=.ok (.int i) s'/\Go o L s s' (p+(sgn i).length) b:=by
 have gi : -1000000000000000000<i/\i<1000000000000000000:=g
 have hm:i.natAbs<10 ^ 18:=by omega
 have l1:=i6 i.natAbs
 have l2:=m7 hm
 have hlen:∀s:aj,yz [.str (S (dg i.natAbs))] s=.ok (.int ((dg i.natAbs).length:Int)) s:=λs=>len_str (by omega)
 have nj:∀(s:aj) c t,dg i.natAbs=c::t->z9 (.str (S (dg i.natAbs))) (.int 0) s=.ok (.str ⟨#[c]⟩) s:=λs c t e=>cB (p:=0) (by omega) (by rw [e];rfl)
 by_cases hi:i<0
 ·have es:sgn i=45::dg i.natAbs:=by unfold sgn;rw [zj hi]
  rw [es] at hd ⊢
  have P1:=jo h hp hl hd
  have G1:Go o L s (s.set o (rd L (p+1) b)) (p+1) b:=Go.set h
  obtain ⟨d1,d2,d3⟩:=jp hd
  obtain ⟨s2,e2,G2⟩:=nr (sg := "0123456789") G1.at_ (by omega) hl d3 (λc hc=>De hc) hr
  obtain ⟨c,t,ec,hc⟩:=pN (m:=i.natAbs) (by omega)
  have ne:(⟨#[c]⟩:Str) ≠ "0" := λq=>hc (by rw [pU] at q;cases q;rfl)
  refine ⟨s2,zK rfl (zm (zV (yg (zc rfl) h (by decide) (zj rfl) (zD rfl) ((congrArg (λz=>m_ValueReader_passes [.ref o,.str z] s) uc).trans P1))) (zm (zV (yg (zc rfl) G1.at_ (by decide) (zj rfl) (zD rfl) e2)) (zm (zG (ja (b:=true) (zn (lJ rfl (zv (zD (zc rfl)) (hlen _)) rfl (by omega) true (by simp;omega))))) (zm (zG (lr (zn (zk (zk (zc rfl) rfl (nj _ c t ec)) rfl (eqs _ _ false (by simpa using ne) _))))) (zJ ?_))))),by rw [yA,show p+((dg i.natAbs).length+1)=p+1+(dg i.natAbs).length by omega];exact G1.trans G2⟩
  rw [xR,zn (b:=true) (zc rfl),zA,zj rfl,yL (zv (zD (zc rfl)) (Df hm)) (xU _)]
  rw [show -((i.natAbs:Nat):Int)=i by omega]
 ·have es:sgn i=dg i.natAbs:=by unfold sgn;rw [zx hi]
  rw [es] at hd ⊢
  cases ed:dg i.natAbs with
  |nil=>rw [ed] at l1;simp at l1
  |cons c t =>
   have hc:=lG i.natAbs c (by rw [ed];exact zY ..)
   have P1:=jh (c:=45) h hp hl (by rw [hd,ed];simp;omega)
   obtain ⟨s2,e2,G2⟩:=nr (sg := "0123456789") h hp hl hd (λc hc=>De hc) hr
   rw [<-ed]
   have t3:(wF (mB (zf yf (zf z9 (zb 2) (Ar 0)) (As "0"))) (ju (mB (zb 1)) (mB (zf jS (zo yz (ze (zb 2) zg)) (Ar 1))))) [sR o,some (.bl false),some (.str (S (dg i.natAbs)))] s2=.ok false s2:=by
    by_cases h0:i.natAbs=0
    ·have ll:(dg i.natAbs).length=1:=by rw [h0,pM];rfl
     have e0:dg i.natAbs=48::[]:=by rw [h0,pM]
     exact fB (zn (zk (zk (zc rfl) rfl (nj _ 48 [] e0)) rfl (eqs _ _ true (by rw [pU];simp) _))) (jw (zn (zc rfl)) (zn (zk (zv (zD (zc rfl)) (hlen _)) rfl (dq false (by rw [decide_eq_false_iff_not];omega) _))))
    ·obtain ⟨c',t',ec,eh⟩:=pN (m:=i.natAbs) (by omega)
     have ne:(⟨#[c']⟩:Str) ≠ "0" := λq=>eh (by rw [pU] at q;cases q;rfl)
     exact lr (zn (zk (zk (zc rfl) rfl (nj _ c' t' ec)) rfl (eqs _ _ false (by simpa using ne) _)))
   refine ⟨s2,zK rfl (zm (zV (yg (zc rfl) h (by decide) (zj rfl) (zD rfl) ((congrArg (λz=>m_ValueReader_passes [.ref o,.str z] s) uc).trans P1))) (zm (zV (yg (zc rfl) h (by decide) (zj rfl) (zD rfl) e2)) (zm (zG (ja (b:=true) (zn (lJ rfl (zv (zD (zc rfl)) (hlen _)) rfl (by omega) true (by simp;omega))))) (zm (zG t3) (zJ ?_))))),G2⟩
   rw [xR,zn (b:=false) (zc rfl),zA,zx (by simp),zv (zD (zc rfl)) (Df hm)]
   rw [show ((i.natAbs:Nat):Int)=i by omega]
end
def Nw {t:Tr}(g:gd t):∃c l,tx t=c::l/\c≠93/\c≠125/\c≠44:=by
 cases t with
 |num i =>
  simp only [tx]
  unfold sgn
  split
  ·exact ⟨45,_,rfl,by decide,by decide,by decide⟩
  ·have l1:=i6 i.natAbs
   cases ed:dg i.natAbs with
   |nil=>rw [ed] at l1;simp at l1
   |cons c t =>
    have hc:=lG i.natAbs c (by rw [ed];exact zY ..)
    exact ⟨c,t,rfl,by omega,by omega,by omega⟩
 |word z=>exact ⟨39,_,rfl,by decide,by decide,by decide⟩
 |row ts=>exact ⟨91,_,rfl,by decide,by decide,by decide⟩
 |rec_ ks ts=>exact ⟨123,_,rfl,by decide,by decide,by decide⟩
def Ny (i:Int):∃c l,sgn i=c::l/\c≠39/\c≠91/\c≠123:=by
 unfold sgn
 split
 ·exact ⟨45,_,rfl,by decide,by decide,by decide⟩
 ·have l1:=i6 i.natAbs
  cases ed:dg i.natAbs with
  |nil=>rw [ed] at l1;simp at l1
  |cons c t =>
   have hc:=lG i.natAbs c (by rw [ed];exact zY ..)
   exact ⟨c,t,rfl,by omega,by omega,by omega⟩
def yw (a b:Str):Prop:=a.cps.toList<b.cps.toList
def Dg {ks:Ad}(nd:ks.Nodup):(aL ks).Pairwise yw:=by
 have h1:(aL ks).Pairwise (λa b=>cf a b=true):=List.pairwise_mergeSort lB mV ks
 have h2:(aL ks).Nodup:=(yu ks).nodup_iff.mpr nd
 refine List.Pairwise.imp₂ (λa b h h'=>?_) h1 h2
 unfold yw
 refine List.not_le.mp λq=>h' ?_
 exact sE h (by unfold cf;rw [yZ];exact q)
def Nz {ks:Ad}{z:Str}(h:(ks++[z]).Pairwise yw):(ks++[z])[argBest (e8 (ks++[z])) ((ks++[z]).length-1)]?=some z:=by
 have key:∀k,k<(ks++[z]).length->argBest (e8 (ks++[z])) k=k:=by
  intro k
  induction k with
  |zero=>intro _;rfl
  |succ k ih =>
   intro hk
   unfold argBest
   rw [ih (by omega)]
   refine zj ?_
   unfold e8
   rw [yZ,yc hk,yc (by omega)]
   exact List.pairwise_iff_getElem.mp h k (k+1) (by omega) hk (by omega)
 rw [key _ (by simp)]
 simp
def ue {s:aj}{n:Nat}{ks:Ad}{xs:An}{z:Str}(hn:s[n]?=some (.dic (ks++[z]) xs)) (h:(ks++[z]).Pairwise yw):mX [.ref n] s=.ok (.str z) s:=by
 show y3 s n _=_
 rw [iP hn,Nz h]
def Dh {a b:Str}(h:yw b a) (s:aj):pj (.str a) (.str b) s=.ok (.bl false) s:=by
 show Res.ok (PV.bl (!decide (b.cps.toList<a.cps.toList))) s=_
 rw [wf (show b.cps.toList<a.cps.toList from h)]
 rfl
def NA {z:Str} (h:a9 z=true):yw "" z:=by
 have:=jb h
 have e:("" : Str).cps.toList=[]:=by decide +kernel
 unfold yw
 rw [e]
 cases ez:z.cps.toList with
 |nil =>
  have:z.length=0:=by
   have e:z.cps.toList.length=z.length:=by cases z;simp [Str.length]
   rw [<-e,ez];rfl
  omega
 |cons a l=>exact List.nil_lt_cons a l
def Rp (mr:Al) (t:Tr):Prop:=∀(s:aj) (L:List Nat) (p b o:Nat) (R:List Nat) (r:List Nat),s[o]?=some (rd L p b)->p<=L.length->L.length<=100000->L.drop p=tx (cn t)++r->Stop r->b+sz t<=60->(∀x∈R,x<s.length) ->
 ∃v s1,mr [.ref o] s=.ok v s1/\Go o L s s1 (p+(tx (cn t)).length) (b+sz t)/\TR (vw R s1) (cn t) v
def wb:("'" : Str)=S [39]:=by decide +kernel
def j0:("[" : Str)=S [91]:=by decide +kernel
def wc:("]" : Str)=S [93]:=by decide +kernel
def f9:("{" : Str)=S [123]:=by decide +kernel
def wQ:("}" : Str)=S [125]:=by decide +kernel
def jq:("," : Str)=S [44]:=by decide +kernel
def lK:(":" : Str)=S [58]:=by decide +kernel
section
variable {o:Nat} {L:List Nat} {mr:Al}
def ask {c:Nat} {z:Str} {e:za} {s s1:aj} {p b:Nat} {x:PV} (ez:z=S [c]) (h:s[o]?=some (rd L p b)) (h0:e[0]?=some (sR o)) (hm:m_ValueReader_passes [.ref o,.str (S [c])] s=.ok x s1):(yk "passes" wy (zb 0) (ze (As z) zg)) e s=.ok x s1 :=
 yg (zc h0) h (by decide) (zj rfl) (zD rfl) ((congrArg (λz=>m_ValueReader_passes [.ref o,.str z] s) ez).trans hm)
def must {c:Nat} {z:Str} {e:za} {s s1:aj} {p b:Nat} {x:PV} (ez:z=S [c]) (h:s[o]?=some (rd L p b)) (h0:e[0]?=some (sR o)) (hm:m_ValueReader_pass_sign [.ref o,.str (S [c])] s=.ok x s1):(yk "pass_sign" iU (zb 0) (ze (As z) zg)) e s=.ok x s1 :=
 yg (zc h0) h (by decide) (zj rfl) (zD rfl) ((congrArg (λz=>m_ValueReader_pass_sign [.ref o,.str z] s) ez).trans hm)
def part {e:za} {s s1:aj} {p b:Nat} {x:PV} (h:s[o]?=some (rd L p b)) (h0:e[0]?=some (sR o)) (hm:mr [.ref o] s=.ok x s1):(yk "read_part" (jx "ValueReader" mr) (zb 0) zg) e s=.ok x s1 :=
 yg (zc h0) h (by decide) jm yE hm
def pV (ls:List (List Nat)) {c:Nat}(hc:c=93\/c=125) (r:List Nat):Stop (jt ls++c::r):=by
 cases ls with
 |nil=>exact .inr ⟨c,r,rfl,by omega⟩
 |cons l ls=>exact .inr ⟨44,_,rfl,by omega⟩
def g8 {c d:Nat}{l:List Nat}(h:c≠d):(c::l).take 1≠[d]:=by simp [h]
abbrev tC:Ak:=(mB (yk "passes" wy (zb 0) (ze (As ",") zg)))
theorem Di {a:aj}{l:Nat}{R:List Nat}{r:List Nat}(hL:L.length<=100000) (ho:o<a.length) (Dj:a.length<=l) (hR:∀x∈R,x<a.length):∀(us d0:List Tr) (fuel p b:Nat) (s:aj) (ys:An),(∀t∈us,Rp mr t)->Go o L a s p b->p<=L.length->s[l]?=some (.lst ys)->aP (vw R s) (d0.map cn) ys->L.drop p=jt (us.map λt=>tx (cn t))++93::r->b+aM us<=60->us.length<fuel->d0.length+us.length<=1000 ->
  ∃s' a8,bB tC (jD (wt gP (zb 1) (yk "read_part" (jx "ValueReader" mr) (zb 0) zg))) fuel [sR o,sR l] s=.ok (.nx [sR o,sR l]) s'/\Go o L a s' (p+(jt (us.map λt=>tx (cn t))).length) (b+aM us)/\s'[l]?=some (.lst a8)/\aP (vw R s') ((d0++us).map cn) a8
 |[],d0,fuel,p,b,s,ys,hm,G,hp,hl,tr,hd,hb,hf,hz=>by
  obtain ⟨f,rfl⟩:∃f,fuel=f+1:=⟨fuel-1,by simp at hf;omega⟩
  refine ⟨s,ys,?_,by simpa [jt,aM] using G,hl,by simpa using tr⟩
  have T:tC [sR o,sR l] s=.ok false s:=zn (ask jq G.at_ rfl (jh G.at_ hp hL (by rw [hd];exact g8 (by decide))))
  rw [jj,T,zA]
  rfl
 |t::us,d0,fuel,p,b,s,ys,hm,G,hp,hl,tr,hd,hb,hf,hz=>by
  obtain ⟨f,rfl⟩:∃f,fuel=f+1:=⟨fuel-1,by simp at hf;omega⟩
  simp only [aM] at hb
  have aW:L.drop p=44::(tx (cn t)++(jt (us.map λt=>tx (cn t))++93::r)):=by rw [hd];simp [jt]
  obtain ⟨g1,g2,g3⟩:=jp aW
  have T:tC [sR o,sR l] s=.ok true (s.set o (rd L (p+1) b)):=zn (ask jq G.at_ rfl (jo G.at_ hp hL aW))
  have G1:Go o L s (s.set o (rd L (p+1) b)) (p+1) b:=Go.set G.at_
  obtain ⟨v,s2,e2,G2,tv⟩:=hm t (zY ..) _ L (p+1) b o R _ G1.at_ (by omega) hL g3 (pV _ (.inl rfl) r) (by omega) (λx hx=>G1.lt (G.lt (hR x hx)))
  have lo:l≠o:=by omega
  have e_:=G1.ob l _ lo hl
  have eP:=G2.ob l _ lo e_
  have qi:=tr.len
  have B:jD (wt gP (zb 1) (yk "read_part" (jx "ValueReader" mr) (zb 0) zg)) [sR o,sR l] (s.set o (rd L (p+1) b))=.ok (.nx [sR o,sR l]) (s2.set l (.lst (ys++[v]))):=jX (pe (zc rfl) e_ (part G1.at_ rfl e2) (by rw [rT,yH eP,zj (by simp at qi;simp [lim] at hz ⊢;omega)]))
  have D3:Dk (vw R s2) (vw R (s2.set l (.lst (ys++[v])))):=j_ λn ks xs hn e=>⟨hn,by rw [yI (λq=>by rw [<-q,eP] at e;cases e)];exact e⟩
  have G3:Go o L a (s2.set l (.lst (ys++[v]))) (p+1+(tx (cn t)).length) (b+sz t):=⟨by rw [yI lo];exact G2.at_,λn so hn e=>by
   rw [yI (by have:=yr e;omega)]
   exact G2.ob n so hn (G1.ob n so hn (G.ob n so hn e))⟩
  obtain ⟨s',a8,e',G',c4,dj⟩:=Di (r:=r) hL ho Dj hR us (d0++[t]) f (p+1+(tx (cn t)).length) (b+sz t) _ (ys++[v]) (λu hu=>hm u (yd _ hu)) G3 (jg (i:=0) g3 (by omega)) (jr (yr eP)) (by
   rw [y8]
   exact (aP.mono D3 _ (aP.mono (G2.vw G1.at_) _ (aP.mono (G1.vw G.at_) _ tr))).append ⟨v,[],rfl,TR.mono D3 _ tv,rfl⟩) (jG g3) (by omega) (by simp at hf;omega) (by simp at hz ⊢;omega)
  refine ⟨s',a8,?_,?_,c4,by simpa using dj⟩
  ·rw [jj,T,zA,zj rfl,B,zA]
   exact e'
  ·have q1:p+(jt ((t::us).map λt=>tx (cn t))).length=p+1+(tx (cn t)).length+(jt (us.map λt=>tx (cn t))).length:=by simp [jt];omega
   have q2:b+aM (t::us)=b+sz t+aM us:=by simp only [aM];omega
   rw [q1,q2]
   exact G'
def NC {s:aj}{p b:Nat}{R r:List Nat}{ts:List Tr}(h:s[o]?=some (rd L p b)) (hp:p<=L.length) (hL:L.length<=100000) (hg:∀t∈ts,gd t) (hm:∀t∈ts,Rp mr t) (hR:∀x∈R,x<s.length) (hd:L.drop p=jn (ts.map λt=>tx (cn t))++93::r) (hb:b+aM ts<=60) :
  ∃ys s1,m_ValueReader_read_row mr [.ref o] s=.ok (.tup ys) s1/\Go o L s s1 (p+(jn (ts.map λt=>tx (cn t))).length+1) (b+aM ts)/\aP (vw R s1) (ts.map cn) ys:=by
 cases ts with
 |nil =>
  have aW:L.drop p=93::r:=hd
  exact ⟨[],_,zK rfl (yq (z7 (zn (ask wc h rfl (jo h hp hL aW))) (zJ (A6 yE (by simp))))),Go.set h,rfl⟩
 |cons t us =>
  have gt:=tK yu (hg t (zY ..))
  simp only [aM] at hb
  have aW:L.drop p=tx (cn t)++(jt (us.map λt=>tx (cn t))++93::r):=by rw [hd];simp [jn]
  obtain ⟨c,l,ec,n1,_,_⟩:=Nw gt
  have F:=jh (c:=93) h hp hL (by rw [aW,ec];exact g8 n1)
  obtain ⟨v,s2,e2,G2,tv⟩:=hm t (zY ..) s L p b o R _ h hp hL aW (pV _ (.inl rfl) r) (by omega) hR
  have so:o<s.length:=yr h
  have uf:s.length<=s2.length:=by
   rcases Nat.eq_zero_or_pos s.length with q|q
   ·omega
   ·have:=G2.lt (n:=s.length-1) (by omega);omega
  have un:=iW us
  obtain ⟨s',a8,e',G',c4,dj⟩:=Di (mr:=mr) (a:=s) (l:=s2.length) (R:=R) (r:=r) hL so uf hR us [t] lim (p+(tx (cn t)).length) (b+sz t) (s2++[.lst [v]]) [v] (λu hu=>hm u (yd _ hu)) (G2.trans (Go.old G2.at_ (yp _ _))) (jg (i:=0) aW hp) (yo _ _) ⟨v,[],rfl,TR.mono (tQ (yp _ _)) _ tv,rfl⟩ (jG aW) (by omega) (by simp [lim];omega) (by simp;omega)
  have cY:p+(tx (cn t)).length+(jt (us.map λt=>tx (cn t))).length<=L.length:=by
   have:=jg (i:=0) (l:=tx (cn t)++jt (us.map λt=>tx (cn t))) (r:=93::r) (by rw [aW];simp) hp
   simp at this ⊢;omega
  have hd2:L.drop (p+(tx (cn t)).length+(jt (us.map λt=>tx (cn t))).length)=93::r:=jG (jG aW)
  have P:=lI G'.at_ cY hL hd2
  have lo:s2.length≠o:=by omega
  have ug:(s'.set o (rd L (p+(tx (cn t)).length+(jt (us.map λt=>tx (cn t))).length+1) (b+sz t+aM us)))[s2.length]?=some (.lst a8):=by rw [yI (y0 lo)];exact c4
  have G3:=Go.set (p':=p+(tx (cn t)).length+(jt (us.map λt=>tx (cn t))).length+1) (b':=b+sz t+aM us) G'.at_
  refine ⟨a8,_,zK rfl (zm (zG (zn (ask wc h rfl F))) (zm (zV (wv (zD (part h rfl e2)) (by simp))) (zm e' (zm (jX (must wc G'.at_ rfl P)) (zJ (zv (zD (zc rfl)) (by rw [rS,yH ug]))))))),?_,aP.mono (G3.vw G'.at_) _ (by simpa using dj)⟩
  have q1:p+(jn ((t::us).map λt=>tx (cn t))).length+1=p+(tx (cn t)).length+(jt (us.map λt=>tx (cn t))).length+1:=by simp [jn];omega
  have q2:b+aM (t::us)=b+sz t+aM us:=by simp only [aM];omega
  rw [q1,q2]
  exact G'.trans G3
end
section
variable {o:Nat} {L:List Nat} {mr:Al}
def Dl {a s:aj}{p b q:Nat}{R r:List Nat}{k last:Str}{t:Tr}{kd:Ad}{us:List Tr}{ys:An}(hL:L.length<=100000) (ho:o<a.length) (ke:a.length<=q) (hR:∀x∈R,x<a.length) (G:Go o L a s p b) (hp:p<=L.length) (hq:s[q]?=some (.dic kd ys)) (tr:aP (vw (q::R) s) us ys)
  (hk:a9 k=true) (hm:Rp mr t) (hd:L.drop p=ent k (tx (cn t))++r) (hr:Stop r) (hb:b+sz t<=60) (uh:yw last k) (hn:k∉kd) (hl:kd.length<=1000) :
  ∃s' v,m_ValueReader_read_entry mr [.ref o,.ref q,.str last] s=.ok .non s'/\Go o L a s' (p+(ent k (tx (cn t))).length) (b+sz t)/\s'[q]?=some (.dic (kd++[k]) (ys++[v]))/\aP (vw (q::R) s') (us++[cn t]) (ys++[v]):=by
 have d4:L.drop p=k.cps.toList++(58::(tx (cn t)++r)):=by rw [hd];simp [ent]
 obtain ⟨s1,e1,G1⟩:=ub G.at_ hp hL d4 hk (Stop.abc (.inr ⟨58,_,rfl,by omega⟩))
 have kf:=jg (i:=0) d4 hp
 have hd2:=jG d4
 obtain ⟨g1,g2,g3⟩:=jp hd2
 have P:=lI G1.at_ kf hL hd2
 have G2:Go o L s1 _ (p+k.cps.toList.length+1) b:=Go.set G1.at_
 have oq:q≠o:=by omega
 have f_:=G2.ob q _ oq (G1.ob q _ oq hq)
 obtain ⟨v,s3,e3,G3,tv⟩:=hm _ L _ b o (q::R) r G2.at_ (by omega) hL g3 hr hb (λx hx=>by
  rcases yn.mp hx with e|e
  ·rw [e];exact yr f_
  ·exact G2.lt (G1.lt (G.lt (hR x e))))
 have nu:=G3.ob q _ oq f_
 have W:=CZ (fo:=zb 1) (fi:=zb 3) (e:=[sR o,sR q,some (.str last),some (.str k)]) (part (mr:=mr) G2.at_ rfl e3) (zc rfl) (zc rfl) nu hn hl
 refine ⟨_,v,pR rfl (zm (zV (yg (zc rfl) G.at_ (by decide) (zj rfl) yE e1)) (zm (zG (zn (zk (zc rfl) (zc rfl) (Dh uh s1)))) (zm (jX (must lK G1.at_ rfl P)) W))),⟨?_,λn so cE e=>?_⟩,jr (yr nu),aP.mono (tT _) _ ((aP.mono (G3.vw G2.at_) _ (aP.mono (G2.vw G1.at_) _ (aP.mono (G1.vw G.at_) _ tr))).append ⟨v,[],rfl,tv,rfl⟩)⟩
 ·rw [yI oq,G3.at_]
  have:p+(ent k (tx (cn t))).length=p+k.cps.toList.length+1+(tx (cn t)).length:=by simp [ent];omega
  rw [this]
 ·rw [yI (by have:=yr e;omega)]
  exact G3.ob n so cE (G2.ob n so cE (G1.ob n so cE (G.ob n so cE e)))
abbrev bE (mr:Al):Aj:=(jD (yk "read_entry" (jx "ValueReader" (m_ValueReader_read_entry mr)) (zb 0) (ze (zb 1) (ze (zo mX (ze (zb 1) zg)) zg))))
theorem Dm {a:aj}{q:Nat}{R r:List Nat}{f:Str->Tr}(hL:L.length<=100000) (ho:o<a.length) (ke:a.length<=q) (hR:∀x∈R,x<a.length):∀(kr kd:Ad) (k0:Str) (fuel p b:Nat) (s:aj) (ys:An),(∀k∈kr,a9 k=true/\Rp mr (f k))->Go o L a s p b->p<=L.length->s[q]?=some (.dic (kd++[k0]) ys)->aP (vw (q::R) s) ((kd++[k0]).map λk=>cn (f k)) ys->(kd++[k0]++kr).Pairwise yw->(kd++[k0]++kr).Nodup->L.drop p=jt (kr.map λk=>ent k (tx (cn (f k))))++125::r->b+aM (kr.map f)<=60->kr.length<fuel->kd.length+kr.length<=900 ->
  ∃s' a8,bB tC (bE mr) fuel [sR o,sR q] s=.ok (.nx [sR o,sR q]) s'/\Go o L a s' (p+(jt (kr.map λk=>ent k (tx (cn (f k))))).length) (b+aM (kr.map f))/\s'[q]?=some (.dic (kd++[k0]++kr) a8)/\aP (vw (q::R) s') ((kd++[k0]++kr).map λk=>cn (f k)) a8
 |[],kd,k0,fuel,p,b,s,ys,hm,G,hp,hq,tr,pw,nd,hd,hb,hf,hz=>by
  obtain ⟨f,rfl⟩:∃f,fuel=f+1:=⟨fuel-1,by simp at hf;omega⟩
  refine ⟨s,ys,?_,by simpa [jt,aM] using G,by simpa using hq,by simpa using tr⟩
  have T:tC [sR o,sR q] s=.ok false s:=zn (ask jq G.at_ rfl (jh G.at_ hp hL (by rw [hd];exact g8 (by decide))))
  rw [jj,T,zA]
  rfl
 |k::kr,kd,k0,fuel,p,b,s,ys,hm,G,hp,hq,tr,pw,nd,hd,hb,hf,hz=>by
  obtain ⟨fl,rfl⟩:∃f,fuel=f+1:=⟨fuel-1,by simp at hf;omega⟩
  simp only [yi,aM] at hb
  have aW:L.drop p=44::(ent k (tx (cn (f k)))++(jt (kr.map λk=>ent k (tx (cn (f k))))++125::r)):=by rw [hd];simp [jt]
  obtain ⟨g1,g2,g3⟩:=jp aW
  have T:tC [sR o,sR q] s=.ok true (s.set o (rd L (p+1) b)):=zn (ask jq G.at_ rfl (jo G.at_ hp hL aW))
  have G1:Go o L s (s.set o (rd L (p+1) b)) (p+1) b:=Go.set G.at_
  have oq:q≠o:=by omega
  have eE:=G1.ob q _ oq hq
  obtain ⟨hk,uk⟩:=hm k (zY ..)
  have ND:(kd++[k0]).Pairwise yw:=(List.pairwise_append.mp pw).1
  have tO:yw k0 k:=(List.pairwise_append.mp pw).2.2 k0 (by simp) k (zY ..)
  have nk:k∉kd++[k0]:=λh=>(List.nodup_append.mp nd).2.2 k h k (zY ..) rfl
  obtain ⟨s2,v,e2,G2,f_,uo⟩:=Dl (mr:=mr) (a:=a) (last:=k0) hL ho ke hR (G.trans G1) (by omega) eE (aP.mono (G1.vw G.at_) _ tr) hk uk g3 (pV _ (.inr rfl) r) (by omega) tO nk (by simp at hz ⊢;omega)
  have B:bE mr [sR o,sR q] (s.set o (rd L (p+1) b))=.ok (.nx [sR o,sR q]) s2:=jX (yg (zc rfl) G1.at_ (by decide) jm (zO (zc rfl) (zv (zD (zc rfl)) (ue eE ND))) e2)
  obtain ⟨s',a8,e',G',dX,dj⟩:=Dm (r:=r) hL ho ke hR kr (kd++[k0]) k fl (p+1+(ent k (tx (cn (f k)))).length) (b+sz (f k)) s2 (ys++[v]) (λu hu=>hm u (yd _ hu)) G2 (jg (i:=0) g3 (by omega)) f_ (by rw [y8];exact uo) (by simpa using pw) (by simpa using nd) (jG g3) (by omega) (by simp at hf;omega) (by simp at hz ⊢;omega)
  refine ⟨s',a8,?_,?_,by simpa using dX,by simpa using dj⟩
  ·rw [jj,T,zA,zj rfl,B,zA]
   exact e'
  ·have q1:p+(jt ((k::kr).map λk=>ent k (tx (cn (f k))))).length=p+1+(ent k (tx (cn (f k)))).length+(jt (kr.map λk=>ent k (tx (cn (f k))))).length:=by simp [jt];omega
   have q2:b+aM ((k::kr).map f)=b+sz (f k)+aM (kr.map f):=by simp only [yi,aM];omega
   rw [q1,q2]
   exact G'
def NF {s:aj}{p b:Nat}{R r:List Nat}{ks:Ad}{f:Str->Tr}(h:s[o]?=some (rd L p b)) (hp:p<=L.length) (hL:L.length<=100000) (hm:∀k∈ks,a9 k=true/\Rp mr (f k)) (hR:∀x∈R,x<s.length) (pw:ks.Pairwise yw) (nd:ks.Nodup) (hd:L.drop p=jn (ks.map λk=>ent k (tx (cn (f k))))++125::r) (hb:b+aM (ks.map f)<=60) :
  ∃v s1,m_ValueReader_read_record mr [.ref o] s=.ok v s1/\Go o L s s1 (p+(jn (ks.map λk=>ent k (tx (cn (f k))))).length+1) (b+aM (ks.map f))/\TR (vw R s1) (.rec_ ks (ks.map λk=>cn (f k))) v:=by
 have so:o<s.length:=yr h
 cases ks with
 |nil =>
  have aW:L.drop p=125::r:=hd
  have G1:Go o L s (s.set o (rd L (p+1) b)) (p+1) b:=Go.set h
  have ls:s.length∉R:=λq=>by have:=hR _ q;omega
  refine ⟨.ref (s.set o (rd L (p+1) b)).length,_,zK rfl (yq (z7 (zn (ask wQ h rfl (jo h hp hL aW))) (zJ rfl))),G1.trans (Go.old G1.at_ (yp _ _)),?_⟩
  exact ⟨_,[],rfl,fZ.mpr ⟨by rw [List.length_set];exact ls,yo _ _⟩,.nil,rfl,rfl,λ_ h=>nomatch h⟩
 |cons k kr =>
  simp only [yi,aM] at hb
  obtain ⟨hk,uk⟩:=hm k (zY ..)
  have aW:L.drop p=ent k (tx (cn (f k)))++(jt (kr.map λk=>ent k (tx (cn (f k))))++125::r):=by rw [hd];simp [jn]
  have nv:∃c l,k.cps.toList=c::l/\c≠125:=by
   have hc:∀c∈k.cps.toList,c∈abc.cps.toList:=by
    simp only [a9,yC,List.all_eq_true,yZ] at hk
    exact hk.2
   cases ek:k.cps.toList with
   |nil =>
    have:=jb hk
    have e:k.cps.toList.length=k.length:=by cases k;simp [Str.length]
    rw [ek] at e;simp at e;omega
   |cons c l=>exact ⟨c,l,rfl,λq=>by
     have:=hc c (by rw [ek];exact zY ..)
     rw [q] at this
     exact absurd this (by decide +kernel)⟩
  obtain ⟨c,l,ec,n1⟩:=nv
  have F:=jh (c:=125) h hp hL (by rw [aW];simp only [ent,ec,List.cons_append];exact g8 n1)
  have G0:Go o L s (s++[.dic [] []]) p b:=Go.old h (yp _ _)
  obtain ⟨s1,v,e1,G1,eE,uq⟩:=Dl (mr:=mr) (a:=s) (q:=s.length) (R:=R) (last := "") (us:=[]) (ys:=[]) hL so (z0 _) hR G0 hp (yo _ _) rfl hk uk aW (pV _ (.inr rfl) r) (by omega) (NA hk) (by simp) (by simp)
  have kn:=iW (kr.map f)
  rw [yX] at kn
  obtain ⟨s',a8,e',G',dX,dj⟩:=Dm (mr:=mr) (a:=s) (q:=s.length) (R:=R) (r:=r) (f:=f) hL so (z0 _) hR kr [] k lim (p+(ent k (tx (cn (f k)))).length) (b+sz (f k)) s1 [v] (λu hu=>hm u (yd _ hu)) G1 (jg (i:=0) aW hp) eE uq (by simpa using pw) (by simpa using nd) (jG aW) (by omega) (by simp [lim];omega) (by simp;omega)
  have cY:p+(ent k (tx (cn (f k)))).length+(jt (kr.map λk=>ent k (tx (cn (f k))))).length<=L.length:=by
   have:=jg (i:=0) (l:=ent k (tx (cn (f k)))++jt (kr.map λk=>ent k (tx (cn (f k))))) (r:=125::r) (by rw [aW];simp) hp
   simp at this ⊢;omega
  have hd2:L.drop (p+(ent k (tx (cn (f k)))).length+(jt (kr.map λk=>ent k (tx (cn (f k))))).length)=125::r:=jG (jG aW)
  have P:=lI G'.at_ cY hL hd2
  have G3:=Go.set (p':=p+(ent k (tx (cn (f k)))).length+(jt (kr.map λk=>ent k (tx (cn (f k))))).length+1) (b':=b+sz (f k)+aM (kr.map f)) G'.at_
  have ur:s.length≠o:=by omega
  have ls:s.length∉R:=λq=>by have:=hR _ q;omega
  refine ⟨.ref s.length,_,zK rfl (zm (zG (zn (ask wQ h rfl F))) (zm (zV rfl) (zm (jX (yg (zc rfl) G0.at_ (by decide) jm (zO (zc rfl) rfl) e1)) (zm e' (zm (jX (must wQ G'.at_ rfl P)) (zJ (zc rfl))))))),?_,?_⟩
  ·have q1:p+(jn ((k::kr).map λk=>ent k (tx (cn (f k))))).length+1=p+(ent k (tx (cn (f k)))).length+(jt (kr.map λk=>ent k (tx (cn (f k))))).length+1:=by simp [jn];omega
   have q2:b+aM ((k::kr).map f)=b+sz (f k)+aM (kr.map f):=by simp only [yi,aM];omega
   rw [q1,q2]
   exact G'.trans G3
  ·have tl:=dj.len
   exact ⟨s.length,a8,rfl,fZ.mpr ⟨ls,by rw [yI (y0 ur)];simpa using dX⟩,nd,by simpa using tl,aP.mono tU _ (aP.mono (G3.vw G'.at_) _ (by simpa using dj)),λz hz=>by have:=jb (hm z hz).1;omega⟩
end
def NG:∀(n:Nat) (t:Tr),dp t<n->gd t->Rp (wz n) t:=by
 intro n
 induction n with
 |zero=>intro t h;omega
 |succ n ih =>
  intro t ny g s L p b o R r h hp hL hd hr hb hR
  show ∃v s1,m_ValueReader_read_part (wz n) [.ref o] s=_/\_
  have sp:=wM t
  have G1:Go o L s (s.set o (rd L p (b+1))) p (b+1):=Go.set h
  have R1:∀x∈R,x<(s.set o (rd L p (b+1))).length:=λx hx=>G1.lt (hR x hx)
  have A:∀{X:Res Fl},tj (wz n) [sR o] (s.set o (rd L p (b+1)))=X->tm (wz n) [sR o] s=X:=λhx=>zm (ua rfl h) (zm (zG (zn (zk (yL (zc rfl) (tZ G1.at_)) rfl (dq false (by rw [decide_eq_false_iff_not];omega) _)))) hx)
  cases t with
  |num i =>
   obtain ⟨c,l,ec,n1,n2,n3⟩:=Ny i
   have aW:L.drop p=sgn i++r:=hd
   have F:∀d,c≠d->m_ValueReader_passes [.ref o,.str (S [d])] (s.set o (rd L p (b+1)))=.ok (.bl false) (s.set o (rd L p (b+1))):=λd fW=>jh G1.at_ hp hL (by rw [aW,ec];exact g8 fW)
   obtain ⟨s2,e2,G2⟩:=ud G1.at_ hp hL aW g hr.fig
   exact ⟨.int i,s2,zK rfl (A (zm (zG (zn (ask wb G1.at_ rfl (F 39 n1)))) (zm (zG (zn (ask j0 G1.at_ rfl (F 91 n2)))) (zm (zG (zn (ask f9 G1.at_ rfl (F 123 n3)))) (zJ (yg (zc rfl) G1.at_ (by decide) (zj rfl) yE e2)))))),G1.trans G2,rfl⟩
  |word z =>
   have aW:L.drop p=39::(z.cps.toList++r):=hd
   obtain ⟨g1,g2,g3⟩:=jp aW
   have P:=jo G1.at_ hp hL aW
   have G2:=Go.set (p':=p+1) (b':=b+1) G1.at_
   obtain ⟨s2,e2,G3⟩:=ub G2.at_ (by omega) hL g3 g hr.abc
   refine ⟨.str z,s2,zK rfl (A (yq (z7 (zn (ask wb G1.at_ rfl P)) (zJ (yg (zc rfl) G2.at_ (by decide) (zj rfl) yE e2))))),?_,rfl,by have:=jb (z:=z) g;omega⟩
   have q1:p+(tx (cn (.word z))).length=p+1+z.cps.toList.length:=by simp [cn,od,tx];omega
   rw [q1]
   exact G1.trans (G2.trans G3)
  |row ts =>
   have aW:L.drop p=91::(jn (ts.map λt=>tx (cn t))++93::r):=by rw [hd];simp [cn,od,wa,i9,List.map_map,Function.comp_def]
   obtain ⟨g1,g2,g3⟩:=jp aW
   simp only [dp] at ny
   simp only [sz] at hb
   have P:=jo G1.at_ hp hL aW
   have F:=jh (c:=39) G1.at_ hp hL (by rw [aW];exact g8 (by decide))
   have G2:=Go.set (p':=p+1) (b':=b+1) G1.at_
   have g':=jO.mp g
   obtain ⟨ys,s2,e2,G3,tr⟩:=NC (R:=R) G2.at_ (by omega) hL g' (λt ht=>ih t (by have:=j9 ht;omega) (g' t ht)) (λx hx=>G2.lt (R1 x hx)) g3 (by omega)
   refine ⟨.tup ys,s2,zK rfl (A (zm (zG (zn (ask wb G1.at_ rfl F))) (yq (z7 (zn (ask j0 G1.at_ rfl P)) (zJ (yg (zc rfl) G2.at_ (by decide) jm yE e2)))))),?_,?_⟩
   ·have q1:p+(tx (cn (.row ts))).length=p+1+(jn (ts.map λt=>tx (cn t))).length+1:=by simp [cn,od,wa,i9,List.map_map,Function.comp_def];omega
    have q2:b+sz (.row ts)=b+1+aM ts:=by simp only [sz];omega
    rw [q1,q2]
    exact G1.trans (G2.trans G3)
   ·simp only [cn,od,wa]
    exact ⟨ys,rfl,tr⟩
  |rec_ ks ts =>
   simp only [dp] at ny
   simp only [sz] at hb
   obtain ⟨nd,hl,hw,gg⟩:=g
   obtain ⟨f,rfl⟩:=m6 nd hl
   have g':=jO.mp gg
   have aW:L.drop p=123::(jn ((aL ks).map λk=>ent k (tx (cn (f k))))++125::r):=by rw [hd,i_];simp
   obtain ⟨g1,g2,g3⟩:=jp aW
   have P:=jo G1.at_ hp hL aW
   have F1:=jh (c:=39) G1.at_ hp hL (by rw [aW];exact g8 (by decide))
   have F2:=jh (c:=91) G1.at_ hp hL (by rw [aW];exact g8 (by decide))
   have G2:=Go.set (p':=p+1) (b':=b+1) G1.at_
   have NH:aM ((aL ks).map f)=aM (ks.map f):=pL ((yu ks).map f)
   obtain ⟨v,s2,e2,G3,tr⟩:=NF (mr:=wz n) (R:=R) (r:=r) (f:=f) G2.at_ (by omega) hL (λk hk=>⟨hw k (yu.sub ks k hk),ih (f k) (by have:=j9 (List.mem_map_of_mem (f:=f) (yu.sub ks k hk));omega) (g' _ (List.mem_map_of_mem (yu.sub ks k hk)))⟩) (λx hx=>G2.lt (R1 x hx)) (Dg nd) ((yu ks).nodup_iff.mpr nd) g3 (by omega)
   refine ⟨v,s2,zK rfl (A (zm (zG (zn (ask wb G1.at_ rfl F1))) (zm (zG (zn (ask j0 G1.at_ rfl F2))) (yq (z7 (zn (ask f9 G1.at_ rfl P)) (zJ (yg (zc rfl) G2.at_ (by decide) jm yE e2))))))),?_,?_⟩
   ·have q1:p+(tx (cn (.rec_ ks (ks.map f)))).length=p+1+(jn ((aL ks).map λk=>ent k (tx (cn (f k))))).length+1:=by rw [i_];simp;omega
    have q2:b+sz (.rec_ ks (ks.map f))=b+1+aM ((aL ks).map f):=by rw [NH];simp only [sz];omega
    rw [q1,q2]
    exact G1.trans (G2.trans G3)
   ·rw [cn,wN (yu.sub ks)]
    exact tr
def uu {f:Str} {fv:Ai} {e:za} {st:aj} {ks:Ad} {xs:An} {x:PV} {X:SO} (hv:fv e (st++[SO.ins "ValueReader" ks xs])=.ok x (st++[SO.ins "ValueReader" ks xs])) (h0:e[0]?=some (sR st.length)) (hl:ks.length<1000) (hX:SO.ins "ValueReader" (Mi.putK f x ks xs).1 (Mi.putK f x ks xs).2=X):Mi.sFld f insOf (zb 0) fv e (st++[SO.ins "ValueReader" ks xs])=.ok (.nx e) (st++[X]):=by
 unfold Mi.sFld
 rw [hv,zA,zc h0,zA]
 show (yG _ st.length _).bind _=_
 unfold yG
 rw [yo]
 simp only
 rw [zj ⟨g7,hl⟩,zA,hX]
 simp
def Dp (L:List Nat) (st:aj):gK "ValueReader" pE [.str (S L)] st=.ok (.ref st.length) (st++[rd L 0 0]):=by
 have I:pE [.ref st.length,.str (S L)] (st++[.ins "ValueReader" [] []])=.ok .non (st++[rd L 0 0]) :=
  pR (e:=[sR st.length,some (.str (S L))]) rfl (zm (uu (X:=.ins "ValueReader" ["text"] [.str (S L)]) (zc rfl) rfl (by decide) rfl) (zm (uu (X:=.ins "ValueReader" ["text", "place"] [.str (S L),.int 0]) rfl rfl (by decide) rfl) (uu (X:=rd L 0 0) rfl rfl (by decide) rfl)))
 unfold gK
 rw [I,zA]
 rfl
def NI {t:Tr}(g:gd t) (hd:dp t<61) (hz:sz t<=60) (st:aj):∃v s1,iV [.str (S (tx (cn t)))] st=.ok v s1/\TR s1 (cn t) v/\Old st s1:=by
 have hl:=nc g
 have h0:(st++[rd (tx (cn t)) 0 0])[st.length]?=some (rd (tx (cn t)) 0 0):=yo _ _
 obtain ⟨v,s1,e1,G,tv⟩:=NG 61 t hd g (st++[rd (tx (cn t)) 0 0]) (tx (cn t)) 0 0 st.length [] [] h0 (jP _) (by omega) (by simp) (.inl rfl) (by omega) (λ_ h=>nomatch h)
 refine ⟨v,s1,zK rfl (zm (zG (ja (b:=true) (zn (zv (zO (zc rfl) rfl) (show yv [.str (S (tx (cn t))),.ty "str"] st=.ok (.bl true) st from rfl))))) (zm (zV (zv (zD (zc rfl)) (Dp _ st))) (zm (zV (yg (zc rfl) h0 (by decide) jm yE e1)) (zm (zG (zn (zk (yL (zc rfl) (wP G.at_)) (zv (zD (zc rfl)) (len_str (by omega))) (g0 false (by rw [decide_eq_false_iff_not];omega) _)))) (zJ (zc rfl)))))),TR.mono tS _ tv,λn so e=>G.ob n so (by have:=yr e;omega) (yp _ _ n so e)⟩
inductive Qs where
 |val (e:Bool)|key (e:Bool) (w:List Nat)|neg|zero|dig (n:Nat)|wrd (n:Nat)|done
inductive Fr where
 |ro|re (l:List Nat)
def cZ (c:Nat):List Fr->Option (Qs×List Fr)
 |.ro::σ=>if c=44 then some (.val false,.ro::σ) else if c=93 then some (.done,σ) else none
 |.re k::σ=>if c=44 then some (.key false [],.re k::σ) else if c=125 then some (.done,σ) else none
 |[]=>none
def bY (c:Nat):Bool:=decide (97<=c)&&decide (c<=122)
def bt (c:Nat):Bool:=decide (48<=c)&&decide (c<=57)
def aV (c:Nat):Qs->List Fr->Option (Qs×List Fr)
 | .val e,σ=>if c=93 then (match e,σ with
   |true,.ro::r=>some (.done,r)
   |_,_=>none) else if c=39 then some (.wrd 0,σ) else if c=91 then some (.val true,.ro::σ) else if c=123 then some (.key true [],.re []::σ) else if c=45 then some (.neg,σ) else if c=48 then some (.zero,σ) else if bt c=true then some (.dig 1,σ) else none
 | .key e w,σ=>if bY c=true then some (.key false (w++[c]),σ) else match σ with
  |.re l::r=>if c=125 then (if e=true then some (.done,r) else none) else if c=58 then (if l<w then some (.val false,.re w::r) else none) else none
  |_=>none
 |.neg,σ=>if bt c=true then (if c=48 then none else some (.dig 1,σ)) else none
 |.zero,σ=>cZ c σ
 |.dig n,σ=>if bt c=true then (if n<18 then some (.dig (n+1),σ) else none) else cZ c σ
 |.wrd n,σ=>if bY c=true then some (.wrd (n+1),σ) else if n=0 then none else cZ c σ
 |.done,σ=>cZ c σ
def rn:Qs->List Fr->List Nat->Option (Qs×List Fr)
 |q,σ,[]=>some (q,σ)
 | q,σ,c::r=>match aV c q σ with
  |some (q',σ')=>rn q' σ' r
  |none=>none
def ya {c:Nat}{q q':Qs}{σ σ':List Fr}{r:List Nat}(h:aV c q σ=some (q',σ')):rn q σ (c::r)=rn q' σ' r:=by rw [rn,h]
def wR {c:Nat}{q:Qs}{σ:List Fr}{r:List Nat}(h:aV c q σ=none):rn q σ (c::r)=none:=by rw [rn,h]
def Dq (m:Option (Qs×List Fr)) (b:List Nat):Option (Qs×List Fr):=match m with
 |some (q,σ)=>rn q σ b
 |none=>none
theorem kg:∀(a b:List Nat) (q:Qs) (σ:List Fr),rn q σ (a++b)=Dq (rn q σ a) b
 |[],b,q,σ=>rfl
 |c::a,b,q,σ=>by
  rw [List.cons_append]
  cases h:aV c q σ with
  |none=>rw [wR h,wR h];rfl
  |some x=>obtain ⟨q',σ'⟩:=x;rw [ya h,ya h,kg a b]
def wB {a b:List Nat}{q q':Qs}{σ σ':List Fr}(h:rn q σ a=some (q',σ')):rn q σ (a++b)=rn q' σ' b:=by rw [kg,h];rfl
def nz {a b:List Nat}{q:Qs}{σ:List Fr}(h:rn q σ a=none):rn q σ (a++b)=none:=by rw [kg,h];rfl
def Ed (q:Qs):Prop:=q=.zero\/q=.done\/(∃n,q=.dig n)\/∃n,q=.wrd (n+1)
def Ed.st {q:Qs}(h:Ed q) (c:Nat) (hc:bY c=false) (hd:bt c=false) (σ:List Fr):aV c q σ=cZ c σ:=by
 rcases h with rfl|rfl|⟨n,rfl⟩|⟨n,rfl⟩<;>simp [aV,hc,hd]
def NJ {c:Nat}(h:c∈abc.cps.toList):bY c=true:=by
 have e:abc.cps.toList=(List.range' 97 26):=by decide +kernel
 rw [e,List.mem_range'] at h
 obtain ⟨i,hi,rfl⟩:=h
 simp [bY];omega
def nB {z:Str}(h:a9 z=true):∀c∈z.cps.toList,bY c=true:=λc hc=>by
 simp only [a9,yC,List.all_eq_true,yZ] at h
 exact NJ (h.2 c hc)
def nC {z:Str}(h:a9 z=true):∃c r,z.cps.toList=c::r:=by
 have:=(jb h).1
 cases e:z.cps.toList with
 |nil =>
  have:z.cps.toList.length=0:=by rw [e];rfl
  have:z.length=0:=by simpa [Str.length] using this
  omega
 |cons c r=>exact ⟨c,r,rfl⟩
theorem uv {σ:List Fr}:∀(l:List Nat) (n:Nat),(∀c∈l,bt c=true)->n+l.length<=18->rn (.dig n) σ l=some (.dig (n+l.length),σ)
 |[],n,_,_=>rfl
 |c::l,n,h,hn=>by
  rw [yA] at hn
  rw [ya (q':=.dig (n+1)) (σ':=σ) (by simp only [aV];rw [zj (h c (zY ..)),zj (by omega)]),uv l (n+1) (λd hd=>h d (yd _ hd)) (by omega),yA,show n+1+l.length=n+(l.length+1) by omega]
theorem Dr {σ:List Fr}:∀(l:List Nat) (n:Nat),(∀c∈l,bY c=true)->rn (.wrd n) σ l=some (.wrd (n+l.length),σ)
 |[],n,_=>rfl
 |c::l,n,h=>by
  rw [ya (q':=.wrd (n+1)) (σ':=σ) (by simp only [aV];rw [zj (h c (zY ..))]),Dr l (n+1) (λd hd=>h d (yd _ hd)),yA,show n+1+l.length=n+(l.length+1) by omega]
theorem pW {σ:List Fr}:∀(l:List Nat) (e:Bool) (w:List Nat),(∀c∈l,bY c=true)->l≠[]->rn (.key e w) σ l=some (.key false (w++l),σ)
 |[],_,_,_,h=>absurd rfl h
 |[c],e,w,h,_=>by rw [ya (q':=.key false (w++[c])) (σ':=σ) (by simp only [aV];rw [zj (h c (zY ..))])];rfl
 |c::d::l,e,w,h,_=>by
  rw [ya (q':=.key false (w++[c])) (σ':=σ) (by simp only [aV];rw [zj (h c (zY ..))]),pW (d::l) false (w++[c]) (λx hx=>h x (yd _ hx)) (by simp),kK]
  rfl
def Goes (l:List Nat):Prop:=∀e σ,∃q,rn (.val e) σ l=some (q,σ)/\Ed q
def kh {m c:Nat}(h:c∈dg m):bt c=true:=by have:=lG m c h;simp [bt];omega
theorem Ds {σ:List Fr}:∀(ls:List (List Nat)) (q:Qs),(∀l∈ls,Goes l)->Ed q->rn q (.ro::σ) (jt ls++[93])=some (.done,σ)
 |[],q,_,h=>by
  show rn q (.ro::σ) [93]=_
  rw [ya ((h.st 93 rfl rfl _).trans (show _=some (.done,σ) by simp [cZ]))];rfl
 |l::ls,q,hl,h=>by
  show rn q (.ro::σ) (44::(l++jt ls++[93]))=_
  rw [ya ((h.st 44 rfl rfl _).trans (show _=some (.val false,.ro::σ) by simp [cZ]))]
  obtain ⟨q',e,h'⟩:=hl l (zY ..) false (.ro::σ)
  rw [kK,wB e]
  exact Ds ls q' (λx hx=>hl x (yd _ hx)) h'
def NK {ls:List (List Nat)}(h:∀l∈ls,Goes l):Goes (91::(jn ls++[93])):=λe σ=>by
 refine ⟨.done,?_,.inr (.inl rfl)⟩
 rw [ya (q':=.val true) (σ':=.ro::σ) (by simp [aV])]
 cases ls with
 |nil=>rw [show jn []++[93]=93::[] from rfl,ya (q':=.done) (σ':=σ) (by simp [aV])];rfl
 |cons l ls =>
  obtain ⟨q',e',h'⟩:=h l (zY ..) true (.ro::σ)
  show rn _ _ (l++jt ls++[93])=_
  rw [kK,wB e']
  exact Ds ls q' (λx hx=>h x (yd _ hx)) h'
def Dt {σ:List Fr}{k:Str}{l last:List Nat}{e:Bool}(hk:a9 k=true) (hl:Goes l) (bg:last<k.cps.toList):∃q,rn (.key e []) (.re last::σ) (ent k l)=some (q,.re k.cps.toList::σ)/\Ed q:=by
 obtain ⟨c,r,ec⟩:=nC hk
 obtain ⟨q,h1,h2⟩:=hl false (.re k.cps.toList::σ)
 refine ⟨q,?_,h2⟩
 unfold ent
 rw [wB (pW k.cps.toList e [] (nB hk) (by rw [ec];simp)),List.nil_append,ya (q':=.val false) (σ':=.re k.cps.toList::σ) (by simp [aV,bY,bg])]
 exact h1
theorem Du {σ:List Fr}{f:Str->List Nat}:∀(ks:Ad) (q:Qs) (last:List Nat),(∀k∈ks,a9 k=true/\Goes (f k)/\last<k.cps.toList)->ks.Pairwise yw->Ed q->rn q (.re last::σ) (jt (ks.map λk=>ent k (f k))++[125])=some (.done,σ)
 |[],q,last,_,_,h=>by
  show rn q (.re last::σ) [125]=_
  rw [ya ((h.st 125 rfl rfl _).trans (show _=some (.done,σ) by simp [cZ]))];rfl
 |k::ks,q,last,hk,pw,h=>by
  show rn q (.re last::σ) (44::(ent k (f k)++jt _++[125]))=_
  rw [ya ((h.st 44 rfl rfl _).trans (show _=some (.key false [],.re last::σ) by simp [cZ]))]
  obtain ⟨w1,w2,w3⟩:=hk k (zY ..)
  obtain ⟨q',e,h'⟩:=Dt (σ:=σ) (e:=false) w1 w2 w3
  rw [kK,wB e]
  rw [List.pairwise_cons] at pw
  exact Du ks q' _ (λx hx=>⟨(hk x (yd _ hx)).1,(hk x (yd _ hx)).2.1,pw.1 x hx⟩) pw.2 h'
def pX (ts:List Tr):tx (cn (.row ts))=91::(jn (ts.map λt=>tx (cn t))++[93]):=by
 show tx (.row (iZ aL ts))=_
 rw [wa,i9,List.map_map];rfl
def Dv {z:Str}(h:a9 z=true):([]:List Nat)<z.cps.toList:=by
 obtain ⟨c,r,e⟩:=nC h
 rw [e];exact List.nil_lt_cons ..
def lM {t:Tr}(g:gd t):Goes (tx (cn t)):=by
 refine fF (P:=λt=>Goes (tx (cn t))) (λi gi=>?_) (λz hz=>?_) (λts _ ih=>?_) (λks f nd hw _ ih=>?_) g
 ·intro e σ
  have gi : -1000000000000000000<i/\i<1000000000000000000:=gi
  have l2:=m7 (m:=i.natAbs) (by omega)
  show ∃q,rn (.val e) σ (sgn i)=_/\_
  by_cases h0:i=0
  ·subst h0
   refine ⟨.zero,?_,.inl rfl⟩
   have:sgn 0=[48]:=by unfold sgn;rw [zx (by decide)];exact pM
   rw [this,ya (q':=.zero) (σ':=σ) (by simp [aV])];rfl
  ·obtain ⟨c,r,ec,hc⟩:=pN (m:=i.natAbs) (by omega)
   have hD:bt c=true:=kh (m:=i.natAbs) (by rw [ec];exact zY ..)
   have hr:∀x∈r,bt x=true:=λx hx=>kh (m:=i.natAbs) (by rw [ec];exact yd _ hx)
   rw [ec,yA] at l2
   have hb:48<=c/\c<=57:=by simpa [bt] using hD
   refine ⟨.dig (1+r.length),?_,.inr (.inr (.inl ⟨_,rfl⟩))⟩
   unfold sgn
   rw [ec]
   by_cases hi:i<0
   ·rw [zj hi,ya (q':=.neg) (σ':=σ) (by simp [aV]),ya (q':=.dig 1) (σ':=σ) (by simp only [aV];rw [zj hD,zx hc])]
    exact uv r 1 hr (by omega)
   ·rw [zx hi,ya (q':=.dig 1) (σ':=σ) (by simp only [aV];rw [zx (by omega),zx (by omega),zx (by omega),zx (by omega),zx (by omega),zx hc,zj hD])]
    exact uv r 1 hr (by omega)
 ·intro e σ
  obtain ⟨c,r,ec⟩:=nC hz
  refine ⟨.wrd (r.length+1),?_,.inr (.inr (.inr ⟨_,rfl⟩))⟩
  show rn (.val e) σ (39::z.cps.toList)=_
  rw [ya (q':=.wrd 0) (σ':=σ) (by simp [aV]),Dr _ 0 (nB hz),ec,yA,Nat.zero_add]
 ·show Goes (tx (cn (.row ts)))
  rw [pX]
  exact NK λl hl=>by obtain ⟨t,ht,rfl⟩:=j1.mp hl;exact ih t ht
 ·show Goes (tx (cn (.rec_ ks (ks.map f))))
  intro e σ
  refine ⟨.done,?_,.inr (.inl rfl)⟩
  rw [i_,ya (q':=.key true []) (σ':=.re []::σ) (by simp [aV])]
  have pw:=Dg nd
  have hs:∀k∈aL ks,a9 k=true/\Goes (tx (cn (f k))):=λk hk=>⟨hw k (yu.sub ks k hk),ih k (yu.sub ks k hk)⟩
  cases es:aL ks with
  |nil=>rw [show jn (([]:Ad).map λk=>ent k (tx (cn (f k))))++[125]=125::[] from rfl,ya (q':=.done) (σ':=σ) (by simp [aV,bY])];rfl
  |cons k kr =>
   rw [es] at pw hs
   rw [List.pairwise_cons] at pw
   obtain ⟨w1,w2⟩:=hs k (zY ..)
   obtain ⟨q',e',h'⟩:=Dt (σ:=σ) (e:=true) w1 w2 (Dv w1)
   show rn _ _ (ent k (tx (cn (f k)))++jt _++[125])=_
   rw [kK,wB e']
   exact Du kr q' _ (λx hx=>⟨(hs x (yd _ hx)).1,(hs x (yd _ hx)).2,pw.1 x hx⟩) pw.2 h'
theorem Dw:∀{U:Type}{l:List U}{f:U->List Nat}{g:U->Nat},(∀x∈l,(f x).count 44+1<=g x)->(jt (l.map f)).count 44<=(l.map g).sum
 |_,[],_,_,_=>by simp [jt]
 |_,x::l,f,g,h=>by
  have:=h x (zY ..)
  have:=Dw (l:=l) (f:=f) (g:=g) λy hy=>h y (yd _ hy)
  simp only [yi,jt,List.count_cons_self,List.count_append,List.sum_cons];omega
def Dx {U:Type}{x:U}{l:List U}{f:U->List Nat}{g:U->Nat}(h:∀y∈x::l,(f y).count 44+1<=g y):(jn ((x::l).map f)).count 44+1<=((x::l).map g).sum:=by
 have:=Dw h
 simp only [yi,jt,List.count_cons_self] at this
 simp only [yi,jn];omega
theorem pY:∀ts:List Tr,(ts.map sz).sum=aM ts
 |[]=>rfl
 |t::ts=>by simp [aM,pY ts]
def uw {l:List Nat}(h:∀c∈l,c≠44):l.count 44=0:=List.count_eq_zero.mpr λm=>h 44 m rfl
def ux (i:Int):∀c∈sgn i,c=45\/bt c=true:=λc hc=>by
 unfold sgn at hc
 split at hc
 ·rcases yn.mp hc with e|e
  ·exact .inl e
  ·exact .inr (kh e)
 ·exact .inr (kh hc)
def pZ {z:Str}(h:a9 z=true) {c:Nat}(hc:c∈z.cps.toList):97<=c/\c<=122:=by simpa [bY] using nB h c hc
def NL {k:Str}(h:a9 k=true) (l:List Nat):(ent k l).count 44=l.count 44:=by
 unfold ent
 rw [List.count_append,uw λc hc e=>by have:=pZ h hc;omega,List.count_cons]
 simp
def Dy (ks:Ad) (f:Str->Tr):((aL ks).map λk=>sz (f k)).sum=aM (ks.map f):=by
 rw [<-pL ((yu ks).map f),<-pY,List.map_map];rfl
def NM {t:Tr}(g:gd t):(tx (cn t)).count 44=0\/(tx (cn t)).count 44+2<=sz t:=by
 refine fF (P:=λt=>(tx (cn t)).count 44=0\/(tx (cn t)).count 44+2<=sz t) (λi _=>.inl ?_) (λz hz=>.inl ?_) (λts _ ih=>?_) (λks f nd hw _ ih=>?_) g
 ·exact uw λc hc e=>by rcases ux i 44 (e▸hc) with q|q<;>revert q<;>decide
 ·refine uw λc hc e=>?_
  rcases yn.mp (show c∈39::z.cps.toList from hc) with q|q
  ·omega
  ·have:=pZ hz q;omega
 ·show (tx (cn (.row ts))).count 44=0\/(tx (cn (.row ts))).count 44+2<=1+aM ts
  rw [pX]
  cases ts with
  |nil=>exact .inl rfl
  |cons t ts =>
   have:=Dx (x:=t) (l:=ts) (f:=λt=>tx (cn t)) (g:=sz) λy hy=>by
    have:=wM y
    rcases ih y hy with q|q<;>omega
   rw [pY] at this
   simp only [yi] at this
   right
   rw [List.count_cons,List.count_append]
   simp only [List.count_cons,List.count_nil]
   simp
   omega
 ·show (tx (cn (.rec_ ks (ks.map f)))).count 44=0\/(tx (cn (.rec_ ks (ks.map f)))).count 44+2<=1+aM (ks.map f)
  rw [i_,<-Dy]
  have hs:∀k∈aL ks,(ent k (tx (cn (f k)))).count 44+1<=sz (f k):=λk hk=>by
   rw [NL (hw k (yu.sub ks k hk))]
   have:=wM (f k)
   rcases ih k (yu.sub ks k hk) with q|q<;>omega
  cases es:aL ks with
  |nil=>exact .inl rfl
  |cons k kr =>
   rw [es] at hs
   have:=Dx (f:=λk=>ent k (tx (cn (f k)))) (g:=λk=>sz (f k)) hs
   right
   rw [List.count_cons,List.count_append]
   simp only [List.count_cons,List.count_nil]
   simp at this ⊢
   omega
def yx (l:List Nat):Nat:=l.count 91+if l.any bt=true then 1 else 0
def lN (a b:List Nat):yx (a++b)<=yx a+yx b:=by
 unfold yx
 rw [List.count_append,List.any_append]
 cases a.any bt<;>cases b.any bt<;>simp<;>omega
def NN (a x b:List Nat):yx x<=yx (a++(x++b)):=by
 unfold yx
 rw [List.count_append,List.count_append,List.any_append,List.any_append]
 cases a.any bt<;>cases b.any bt<;>cases x.any bt<;>simp<;>omega
def Dz {l:List Nat}(h:∀c∈l,c≠91/\bt c=false):yx l=0:=by
 unfold yx
 rw [List.count_eq_zero.mpr λm=>(h 91 m).1 rfl,zx]
 rw [List.any_eq_true]
 rintro ⟨c,hc,e⟩
 rw [(h c hc).2] at e;cases e
def p4 (c:Nat) (l:List Nat):yx (c::l)<=yx [c]+yx l:=lN [c] l
theorem DA:∀{U:Type}{l:List U}{f:U->List Nat}{g:U->Nat},(∀x∈l,yx (f x)<=g x)->yx (jt (l.map f))<=(l.map g).sum
 |_,[],_,_,_=>by simp [jt,yx]
 |_,x::l,f,g,h=>by
  have:=h x (zY ..)
  have:=DA (l:=l) (f:=f) (g:=g) λy hy=>h y (yd _ hy)
  simp only [yi,jt,List.sum_cons]
  have:=p4 44 (f x++jt (l.map f))
  have:=lN (f x) (jt (l.map f))
  have:yx [44]=0:=rfl
  omega
def DB {U:Type}{l:List U}{f:U->List Nat}{g:U->Nat}(h:∀x∈l,yx (f x)<=g x):yx (jn (l.map f))<=(l.map g).sum:=by
 cases l with
 |nil=>simp [jn,yx]
 |cons x l =>
  have:=DA (l:=l) (f:=f) (g:=g) λy hy=>h y (yd _ hy)
  have:=h x (zY ..)
  simp only [yi,jn,List.sum_cons]
  have:=lN (f x) (jt (l.map f))
  omega
def NP {t:Tr}(g:gd t):yx (tx (cn t))<=sz t:=by
 refine fF (P:=λt=>yx (tx (cn t))<=sz t) (λi _=>?_) (λz hz=>?_) (λts _ ih=>?_) (λks f nd hw _ ih=>?_) g
 ·have:(sgn i).count 91=0:=List.count_eq_zero.mpr λm=>by rcases ux i 91 m with q|q<;>simp [bt] at q
  show (sgn i).count 91+_<=1
  rw [this];split<;>omega
 ·show yx (39::z.cps.toList)<=1
  rw [Dz λc hc=>?_]
  ·omega
  ·rcases yn.mp hc with q|q
   ·subst q;decide
   ·have:=pZ hz q
    refine ⟨by omega,?_⟩
    simp [bt];omega
 ·show yx (tx (cn (.row ts)))<=1+aM ts
  rw [pX,<-pY]
  have:=DB (l:=ts) (f:=λt=>tx (cn t)) (g:=sz) ih
  have:=p4 91 (jn (ts.map λt=>tx (cn t))++[93])
  have:=lN (jn (ts.map λt=>tx (cn t))) [93]
  have:yx [91]=1:=rfl
  have:yx [93]=0:=rfl
  omega
 ·show yx (tx (cn (.rec_ ks (ks.map f))))<=1+aM (ks.map f)
  rw [i_,<-Dy]
  have:=DB (l:=aL ks) (f:=λk=>ent k (tx (cn (f k)))) (g:=λk=>sz (f k)) λk hk=>by
   have h1:=ih k (yu.sub ks k hk)
   have h2:=lN k.cps.toList (58::tx (cn (f k)))
   have h3:=p4 58 (tx (cn (f k)))
   have h4:yx [58]=0:=rfl
   have h5:yx k.cps.toList=0:=Dz λc hc=>by
    have:=pZ (hw k (yu.sub ks k hk)) hc
    refine ⟨by omega,?_⟩
    simp [bt];omega
   unfold ent
   omega
  have:=p4 123 (jn ((aL ks).map λk=>ent k (tx (cn (f k))))++[125])
  have:=lN (jn ((aL ks).map λk=>ent k (tx (cn (f k))))) [125]
  have:yx [123]=0:=rfl
  have:yx [125]=0:=rfl
  omega
def Bad (l:List Nat):Prop:=∀t,gd t->sz t<=60->tx (cn t)≠l
def acc:Option (Qs×List Fr)->Bool
 |some (.zero,[])=>true
 |some (.done,[])=>true
 |some (.dig _,[])=>true
 |some (.wrd (_+1),[])=>true
 |_=>false
def lO {l:List Nat}(h:acc (rn (.val false) [] l)=false):Bad l:=λt g _ e=>by
 obtain ⟨q,h1,h2⟩:=lM g false []
 rw [<-e,h1] at h
 rcases h2 with rfl|rfl|⟨n,rfl⟩|⟨n,rfl⟩<;>cases h
def DC (b:List Nat):Prop:=61<=yx b\/59<=b.count 44
def lP {b:List Nat}(h:DC b) (x y:List Nat):Bad (x++(b++y)):=λt g hz e=>by
 rcases h with q|q
 ·have:=NP g
  rw [e] at this
  have:=NN x b y
  omega
 ·have h2:=NM g
  rw [e,List.count_append,List.count_append] at h2
  omega
def uz:Option (Qs×List Fr)->Bool
 |none=>true
 |some (.val false,_::_::_)=>true
 |some (.key false [],_)=>true
 |_=>false
def ff (b:List Nat):Bool:=!acc (rn (.val false) [] b)&&!acc (rn (.val false) [.ro] (b++[93]))&&uz (rn (.val true) [.ro] (b++[44]))&&uz (rn (.val false) [.ro] (b++[44]))&&!acc (rn (.val false) [.re [97]] (b++[125]))&&!acc (rn (.val false) [.re [98]] (b++[125]))
def NQ {b:List Nat}(h:∀e σ,rn (.val e) σ b=none):ff b=true:=by
 unfold ff
 rw [h,nz (h _ _),nz (h _ _),nz (h _ _),nz (h _ _),nz (h _ _)]
 rfl
def dS (b:List Nat):Prop:=ff b=true\/DC b
def NR {t:Tr}(g:gd t) (σ:List Fr):∃c l,tx (cn t)=c::l/\aV c (.key false []) σ=none:=by
 have key:∀c,bY c=false->c≠125->c≠58->aV c (.key false []) σ=none:=λc h1 h2 h3=>by
  simp only [aV,h1]
  cases σ with
  |nil=>simp
  |cons f σ=>cases f<;>simp [h2,h3]
 refine fF (P:=λt=>∃c l,tx (cn t)=c::l/\aV c (.key false []) σ=none) (λi _=>?_) (λz hz=>?_) (λts _ ih=>?_) (λks f nd hw _ ih=>?_) g
 ·show ∃c l,sgn i=c::l/\_
  have l1:=i6 i.natAbs
  cases e:sgn i with
  |nil =>
   unfold sgn at e
   split at e
   ·cases e
   ·rw [e] at l1;simp at l1
  |cons c l =>
   have:=ux i c (by rw [e];exact zY ..)
   have hb:c=45\/(48<=c/\c<=57):=this.imp id λq=>by simpa [bt] using q
   exact ⟨c,l,rfl,key c (by simp [bY];omega) (by omega) (by omega)⟩
 ·exact ⟨39,_,rfl,key 39 rfl (by decide) (by decide)⟩
 ·exact ⟨91,_,pX ts,key 91 rfl (by decide) (by decide)⟩
 ·exact ⟨123,_,i_ ks f,key 123 rfl (by decide) (by decide)⟩
def DD {t:Tr}(g:gd t) {m:Option (Qs×List Fr)}(h:uz m=true):acc (Dq m (tx (cn t)++[93]))=false:=by
 match m,h with
 |none,_=>rfl
 |some (.val false,a::b::σ),_ =>
  obtain ⟨q,h1,h2⟩:=lM g false (a::b::σ)
  show acc (rn _ _ _)=false
  rw [wB h1]
  have e:=h2.st 93 rfl rfl (a::b::σ)
  cases a with
  |ro=>rw [ya (e.trans (show _=some (.done,b::σ) by simp [cZ]))];rfl
  |re k=>rw [wR (e.trans (by simp [cZ]))];rfl
 |some (.key false [],σ),_ =>
  obtain ⟨c,l,h1,h2⟩:=NR g σ
  show acc (rn _ _ _)=false
  rw [h1,List.cons_append,wR h2];rfl
section
variable {b:List Nat} {t:Tr}
def NS (h:dS b):Bad b:=by
 rcases h with h|h
 ·simp only [ff,yC,Bool.not_eq_true'] at h
  exact lO h.1.1.1.1.1
 ·have:=lP h [] [];simpa using this
def NT (h:dS b) (g:gd t):Bad (91::(tx (cn t)++44::(b++[93]))):=by
 rcases h with h|h
 ·simp only [ff,yC,Bool.not_eq_true'] at h
  refine lO ?_
  obtain ⟨q,h1,h2⟩:=lM g true [.ro]
  rw [ya (q':=.val true) (σ':=[.ro]) (by simp [aV]),wB h1,ya ((h2.st 44 rfl rfl _).trans (show _=some (.val false,[.ro]) by simp [cZ]))]
  exact h.1.1.1.1.2
 ·have:=lP h (91::(tx (cn t)++[44])) [93];simpa using this
def NU (h:dS b) (g:gd t):Bad (91::(b++44::(tx (cn t)++[93]))):=by
 rcases h with h|h
 ·simp only [ff,yC,Bool.not_eq_true'] at h
  refine lO ?_
  rw [ya (q':=.val true) (σ':=[.ro]) (by simp [aV]),show b++44::(tx (cn t)++[93])=(b++[44])++(tx (cn t)++[93]) by simp,kg]
  exact DD g h.1.1.1.2
 ·have:=lP h [91] (44::(tx (cn t)++[93]));simpa using this
def NV (h:dS b) (g:gd t):Bad (91::(tx (cn t)++44::(b++44::(tx (cn t)++[93])))):=by
 rcases h with h|h
 ·simp only [ff,yC,Bool.not_eq_true'] at h
  refine lO ?_
  obtain ⟨q,h1,h2⟩:=lM g true [.ro]
  rw [ya (q':=.val true) (σ':=[.ro]) (by simp [aV]),wB h1,ya ((h2.st 44 rfl rfl _).trans (show _=some (.val false,[.ro]) by simp [cZ])),show b++44::(tx (cn t)++[93])=(b++[44])++(tx (cn t)++[93]) by simp,kg]
  exact DD g h.1.1.2
 ·have:=lP h (91::(tx (cn t)++[44])) (44::(tx (cn t)++[93]));simpa using this
def NW (h:dS b):Bad (123::97::58::(b++[125])):=by
 rcases h with h|h
 ·simp only [ff,yC,Bool.not_eq_true'] at h
  refine lO ?_
  rw [ya (q':=.key true []) (σ':=[.re []]) (by simp [aV]),ya (q':=.key false [97]) (σ':=[.re []]) (by simp [aV,bY]),ya (q':=.val false) (σ':=[.re [97]]) (by simp [aV,bY])]
  exact h.1.2
 ·have:=lP h [123,97,58] [125];simpa using this
def NX (h:dS b) (g:gd t):Bad (123::97::58::(tx (cn t)++44::98::58::(b++[125]))):=by
 rcases h with h|h
 ·simp only [ff,yC,Bool.not_eq_true'] at h
  refine lO ?_
  obtain ⟨q,h1,h2⟩:=lM g false [.re [97]]
  rw [ya (q':=.key true []) (σ':=[.re []]) (by simp [aV]),ya (q':=.key false [97]) (σ':=[.re []]) (by simp [aV,bY]),ya (q':=.val false) (σ':=[.re [97]]) (by simp [aV,bY]),wB h1,ya ((h2.st 44 rfl rfl _).trans (show _=some (.key false [],[.re [97]]) by simp [cZ])),ya (q':=.key false [98]) (σ':=[.re [97]]) (by simp [aV,bY]),ya (q':=.val false) (σ':=[.re [98]]) (by simp [aV,bY];decide)]
  exact h.2
 ·have:=lP h (123::97::58::(tx (cn t)++[44,98,58])) [125];simpa using this
end
section
variable {c:Str} {ks:Ad} {zs xs:An} {e:za} {st s1 s2:aj} {f fa fb:Ai} {fs:Ah} {g g':Aj}
def y4 {m n:Nat}(hl:xs.length=m) (h:g (xs.map some++List.replicate (n-m) none) st=.err c ks zs s1):z6 m n g xs st=.err c ks zs s1:=by
 unfold z6
 rw [zj hl,h]
 rfl
def ji (h:g e st=.err c ks zs s1):zt g g' e st=.err c ks zs s1:=by rw [rM,h,wu]
def uA {i:Nat}(h:f e st=.err c ks zs s1):zQ i f e st=.err c ks zs s1:=by rw [xV,h,wu]
def g9 (h:f e st=.err c ks zs s1):jD f e st=.err c ks zs s1:=by rw [xW,h,wu]
def p5 (h:f e st=.err c ks zs s1):zF f e st=.err c ks zs s1:=by rw [xX,h,wu]
def NY (h:f e st=.err c ks zs s1):ze f fs e st=.err c ks zs s1:=by rw [xS,h,wu]
def NZ (h:fs e st=.err c ks zs s1):y1 fs e st=.err c ks zs s1:=by rw [xT,h,wu]
def DE {op:Am}{n:Nat}{ys:An}(h:fa e st=.ok (.ref n) s1) (hl:s1[n]?=some (.lst ys)) (h':fb e s1=.err c ks zs s2):wt op fa fb e st=.err c ks zs s2:=by
 rw [x5,h,zA,x8]
 simp only [ym,hl,zA]
 rw [h',wu]
def N0 {fo fi:Ai}(h:f e st=.err c ks zs s1):wJ fo fi f e st=.err c ks zs s1:=by
 unfold wJ
 rw [h,wu]
end
def N1 {a b:Str}(h:¬yw b a) (s:aj):pj (.str a) (.str b) s=.ok (.bl true) s:=by
 show Res.ok (PV.bl (!decide (b.cps.toList<a.cps.toList))) s=_
 rw [js (show ¬b.cps.toList<a.cps.toList from h)]
 rfl
def we (l:List Nat) (c:Nat):(∃r,l=c::r)\/l.take 1≠[c]:=by
 cases l with
 |nil=>exact .inr (by simp)
 |cons d r =>
  by_cases h:d=c
  ·exact .inl ⟨r,by rw [h]⟩
  ·exact .inr (by simp [h])
theorem p6 (sg:List Nat):∀l:List Nat,∃w r,l=w++r/\(∀c∈w,c∈sg)/\(r=[]\/∃c r',r=c::r'/\c∉sg)
 |[]=>⟨[],[],rfl,(λ_ h=>nomatch h),.inl rfl⟩
 |c::l=>by
  by_cases h:c∈sg
  ·obtain ⟨w,r,e,h1,h2⟩:=p6 sg l
   exact ⟨c::w,r,by rw [e];rfl,λd hd=>(yn.mp hd).elim (λq=>by rw [q];exact h) (h1 d),h2⟩
  ·exact ⟨[],c::l,rfl,(λ_ h=>nomatch h),.inr ⟨c,l,rfl,h⟩⟩
abbrev Er (r:Res PV) (o:Nat) (s:aj):Prop:=∃s',r=.err "NoText" [] [] s'/\Ob o s s'
section
variable {o p b:Nat} {L:List Nat} {s:aj}
def uB {c:Nat} (h:s[o]?=some (rd L p b)) (hp:p<=L.length) (hl:L.length<=100000) (hd:(L.drop p).take 1≠[c]):m_ValueReader_pass_sign [.ref o,.str (S [c])] s=.err "NoText" [] [] s :=
 y4 rfl (ji (z7 (zn (zk (yg (zc rfl) h (by decide) (zj rfl) yE (pS h hp hl)) (zc rfl) (pT false (by rw [decide_eq_false_iff_not];exact λe=>hd (C_ e)) s))) (iR ..)))
def ki {c:Nat} {z:Str} {e:za} (ez:z=S [c]) (h:s[o]?=some (rd L p b)) (h0:e[0]?=some (sR o)) (hm:m_ValueReader_pass_sign [.ref o,.str (S [c])] s=.err "NoText" [] [] s):(yk "pass_sign" iU (zb 0) (ze (As z) zg)) e s=.err "NoText" [] [] s :=
 yg (zc h0) h (by decide) (zj rfl) (zD rfl) ((congrArg (λz=>m_ValueReader_pass_sign [.ref o,.str z] s) ez).trans hm)
def p7 {z:Str}(h:z.length<=100000) (s:aj):yz [.str z] s=.ok (.int (z.length:Int)) s:=by
 show (if z.length<=lim then _ else _)=_
 rw [zj (by simp [lim];omega)]
def DF {fa fb fc:Ai}{e:za}{i j k:Int}(h1:fa e s=.ok (.int i) s) (h2:fb e s=.ok (.int j) s) (h3:fc e s=.ok (.int k) s) (hn:¬(i<=j/\j<=k)):jI wm wm fa fb fc e s=.ok (.bl false) s:=by
 by_cases cA:i<=j
 ·exact lJ h1 h2 h3 cA false (by rw [decide_eq_false_iff_not];exact λq=>hn ⟨cA,q⟩)
 ·unfold jI
  rw [h1,zA,h2,zA,si,zA,js cA,mJ,zA,zx (by simp)]
def N2 {z:Str}(hz:z.length<=100000) (h:¬(1<=z.length/\z.length<=8)):pH [.str z] s=.ok (.bl false) s:=by
 have is:yv [.str z,.ty "str"] s=.ok (.bl true) s:=rfl
 exact zK rfl (yq (z7 (jw (ja (b:=true) (zn (zv (zO (zc rfl) rfl) is))) (ja (b:=false) (zn (DF rfl (zv (zD (zc rfl)) (p7 hz s)) rfl (by omega))))) (zJ rfl)))
def DG (h:s[o]?=some (rd L p b)) (hp:p<=L.length) (hl:L.length<=100000):Er (m_ValueReader_read_word [.ref o] s) o s\/∃z r s',m_ValueReader_read_word [.ref o] s=.ok (.str z) s'/\a9 z=true/\L.drop p=z.cps.toList++r/\Go o L s s' (p+z.cps.toList.length) b:=by
 obtain ⟨w,r,e,h1,h2⟩:=p6 abc.cps.toList (L.drop p)
 have hw:=jg (i:=0) e hp
 by_cases hz:1<=w.length/\w.length<=8
 ·have iw:=C5 hz.1 hz.2 h1
  have ew:(S w).cps.toList=w:=by simp [S]
  obtain ⟨s',e',G⟩:=ub (z:=S w) (r:=r) h hp hl (by rw [ew];exact e) iw h2
  exact .inr ⟨S w,r,s',e',iw,by rw [ew];exact e,G⟩
 ·obtain ⟨s1,e1,G1⟩:=nr (sg := "abcdefghijklmnopqrstuvwxyz") h hp hl e h1 h2
  refine .inl ⟨s1,y4 rfl (zm (zV (yg (zc rfl) h (by decide) (zj rfl) (zD rfl) e1)) (ji (z7 (ja (b:=false) (zn (zv (zD (zc rfl)) (N2 (by rw [yR];omega) (by rw [yR];exact hz))))) (iR ..)))),G1.ob⟩
def N3:∀d:Nat,d<10->dg d=[48+d]:=by decide
def N4 {d:Nat}(h:d<10):(Nat.digitChar d).toNat=48+d:=by
 have:∀d:Nat,d<10->(Nat.digitChar d).toNat=48+d:=by decide
 exact this d h
def N8:∀(n:Nat) (w:List Nat),w.length=n->(∀c∈w,48<=c/\c<=57)->∀c r,w=c::r->c≠48->∃m,dg m=w/\0<m/\m<10 ^ n:=by
 intro n
 induction n with
 |zero=>intro w hl _ c r e _;rw [e] at hl;simp at hl
 |succ n ih =>
  intro w hl hd c r e hc
  have gA:w≠[]:=by rw [e];simp
  obtain ⟨w',d,rfl⟩:∃w' d,w=w'++[d]:=⟨w.dropLast,w.getLast gA,(List.dropLast_concat_getLast gA).symm⟩
  have fW:=hd d (by simp)
  rw [jc] at hl
  have c4:w'.length=n:=by simpa using hl
  cases ew:w' with
  |nil =>
   rw [ew] at e c4
   obtain ⟨rfl,_⟩:d=c/\[]=r:=by simpa using e
   refine ⟨d-48,?_,by omega,?_⟩
   ·rw [N3 (d-48) (by omega)];simp;omega
   ·have:n=0:=by simpa using c4.symm
    rw [this];omega
  |cons c' r' =>
   have ec:c'=c:=by rw [ew] at e;simp at e;exact e.1
   obtain ⟨m,h1,h2,h3⟩:=ih w' c4 (λx hx=>hd x (by simp [hx])) c' r' ew (by rw [ec];exact hc)
   refine ⟨10*m+(d-48),?_,by omega,by rw [Nat.pow_succ];omega⟩
   rw [<-ew,<-h1]
   unfold dg
   rw [lF (by omega),y8,show (10*m+(d-48))/10=m by omega,show (10*m+(d-48))%10=d-48 by omega]
   simp [N4 (show d-48<10 by omega)];omega
def N9 (h:s[o]?=some (rd L p b)) (hp:p<=L.length) (hl:L.length<=100000):Er (m_ValueReader_read_number [.ref o] s) o s\/∃i r s',m_ValueReader_read_number [.ref o] s=.ok (.int i) s'/\gd (.num i)/\L.drop p=sgn i++r/\Go o L s s' (p+(sgn i).length) b:=by
 have DH:("0123456789" : Str).cps.toList=[48,49,50,51,52,53,54,55,56,57]:=by decide +kernel
 have main:∀(bw:Bool) (s1:aj) (p1:Nat) (w r:List Nat),m_ValueReader_passes [.ref o,.str (S [45])] s=.ok (.bl bw) s1->Go o L s s1 p1 b->p1<=L.length->L.drop p1=w++r->(∀c∈w,c∈("0123456789" : Str).cps.toList)->(r=[]\/∃c r',r=c::r'/\c∉("0123456789" : Str).cps.toList)->(L.drop p=if bw=true then 45::(w++r) else w++r) ->
   Er (m_ValueReader_read_number [.ref o] s) o s\/∃i r s',m_ValueReader_read_number [.ref o] s=.ok (.int i) s'/\gd (.num i)/\L.drop p=sgn i++r/\Go o L s s' (p+(sgn i).length) b:=λbw s1 p1 w r P G1 kf hd hw hr hD=>by
  have hwl:=jg (i:=0) hd kf
  obtain ⟨s2,e2,G2⟩:=nr (sg := "0123456789") G1.at_ kf hl hd hw hr
  have A:∀{X:Res Fl},s9 [sR o,some (.bl bw),some (.str (S w))] s2=X->Co [sR o,none,none] s=X:=λhx=>zm (zV (yg (zc rfl) h (by decide) (zj rfl) (zD rfl) ((congrArg (λz=>m_ValueReader_passes [.ref o,.str z] s) uc).trans P))) (zm (zV (yg (zc rfl) G1.at_ (by decide) (zj rfl) (zD rfl) e2)) hx)
  have ln:yz [.str (S w)] s2=.ok (.int (w.length:Int)) s2:=len_str (by omega)
  by_cases hz:1<=w.length/\w.length<=18
  ·have L1:∀{X:Res Fl},Cn [sR o,some (.bl bw),some (.str (S w))] s2=X->s9 [sR o,some (.bl bw),some (.str (S w))] s2=X:=λhx=>zm (zG (ja (b:=true) (zn (lJ rfl (zv (zD (zc rfl)) ln) rfl (by omega) true (by simp;omega))))) hx
   cases ew:w with
   |nil=>rw [ew] at hz;simp at hz
   |cons c t =>
    have dig:∀x∈w,48<=x/\x<=57:=λx hx=>by
     have:=hw x hx
     rw [DH] at this
     simp at this;omega
    have ix:z9 (.str (S w)) (.int 0) s2=.ok (.str ⟨#[c]⟩) s2:=cB (p:=0) (by omega) (by rw [ew];rfl)
    by_cases h0:c=48/\(bw=true\/1<w.length)
    ·obtain ⟨hc,h1⟩:=h0
     refine .inl ⟨s2,y4 rfl (A (L1 (ji (z7 (fB (zn (zk (zk (zc rfl) rfl ix) rfl (eqs _ _ true (by rw [hc,pU];simp) _))) ?_) (iR ..))))),(G1.trans G2).ob⟩
     rcases h1 with q|q
     ·rw [q];exact o_ (zn (zc rfl))
     ·cases bw with
      |true=>exact o_ (zn (zc rfl))
      |false=>exact jw (zn (zc rfl)) (zn (zk (zv (zD (zc rfl)) ln) rfl (dq true (by rw [yZ];omega) _)))
    ·obtain ⟨m,em,hm,DI⟩:∃m,dg m=w/\m<10 ^ 18/\(bw=true->0<m):=by
      by_cases hc:c=48
      ·have hb:bw=false:=by
        cases bw with
        |true=>exact absurd ⟨hc,.inl rfl⟩ h0
        |false=>rfl
       have e_:w.length=1:=by
        rcases Nat.lt_or_ge 1 w.length with q|q
        ·exact absurd ⟨hc,.inr q⟩ h0
        ·omega
       have ht:t=[]:=by rw [ew] at e_;simpa using e_
       exact ⟨0,by rw [pM,ew,hc,ht],by decide,λq=>by rw [hb] at q;cases q⟩
      ·obtain ⟨m,h1,h2,h3⟩:=N8 w.length w rfl dig c t ew hc
       exact ⟨m,h1,yY h3 (Nat.pow_le_pow_right (by omega) hz.2),λ_=>h2⟩
     cases bw with
     |true =>
      have Pu:=DI rfl
      have es:sgn (-(m:Int))=45::w:=by
       unfold sgn
       rw [zj (by omega),show (-(m:Int)).natAbs=m by omega,em]
      have gi:gd (.num (-(m:Int))):=by
       show -1000000000000000000 < -(m:Int) /\ -(m:Int)<1000000000000000000
       omega
      have d4:L.drop p=sgn (-(m:Int))++r:=by rw [es];exact hD
      obtain ⟨s',e',G'⟩:=ud h hp hl d4 gi hr
      exact .inr ⟨_,r,s',e',gi,d4,G'⟩
     |false =>
      have es:sgn (m:Int)=w:=by
       unfold sgn
       rw [zx (by omega),Int.natAbs_natCast,em]
      have gi:gd (.num (m:Int)):=by
       show -1000000000000000000<(m:Int)/\(m:Int)<1000000000000000000
       omega
      have d4:L.drop p=sgn (m:Int)++r:=by rw [es];exact hD
      obtain ⟨s',e',G'⟩:=ud h hp hl d4 gi hr
      exact .inr ⟨_,r,s',e',gi,d4,G'⟩
  ·exact .inl ⟨s2,y4 rfl (A (ji (z7 (ja (b:=false) (zn (DF rfl (zv (zD (zc rfl)) ln) rfl (by omega)))) (iR ..)))),(G1.trans G2).ob⟩
 rcases we (L.drop p) 45 with ⟨r0,e0⟩|e0
 ·obtain ⟨d1,d2,d3⟩:=jp e0
  obtain ⟨w,r,e,h1,h2⟩:=p6 ("0123456789" : Str).cps.toList r0
  exact main true _ (p+1) w r (jo h hp hl e0) (Go.set h) (by omega) (by rw [d3];exact e) h1 h2 (by rw [e0,e];rfl)
 ·obtain ⟨w,r,e,h1,h2⟩:=p6 ("0123456789" : Str).cps.toList (L.drop p)
  exact main false s p w r (jh h hp hl e0) (Go.refl h) hp e h1 h2 (by rw [e];rfl)
end
structure Cz (t:Tr):Prop where
 g:gd t
 c:cn t=t
def Got (r:Res PV) (o:Nat) (L:List Nat) (s:aj) (p b:Nat) (R:List Nat):Prop:=Er r o s\/∃v s1 t x,r=.ok v s1/\Cz t/\b+sz t<=60/\L.drop p=tx t++x/\Go o L s s1 (p+(tx t).length) (b+sz t)/\TR (vw R s1) t v
def So (mr:Al) (m:Nat):Prop:=∀(s:aj) (L:List Nat) (p b o:Nat) (R:List Nat),s[o]?=some (rd L p b)->p<=L.length->L.length<=100000->m<=b->b<=60->(∀x∈R,x<s.length)->Got (mr [.ref o] s) o L s p b R
def N_ {ts:List Tr}(h:∀t∈ts,Cz t):Cz (.row ts):=⟨jO.mpr λt ht=>(h t ht).g,by
 show Tr.row (iZ aL ts)=_
 rw [wa]
 exact congrArg Tr.row ((List.map_congr_left λt ht=>(h t ht).c).trans (List.map_id ts))⟩
def lQ {a b:Str}(h:yw a b):a≠b:=λe=>by
 rw [e] at h
 exact absurd h (List.lt_irrefl _)
def DJ {a b:Str}(h:yw a b):¬yw b a:=λh'=>absurd (List.lt_trans (show a.cps.toList<b.cps.toList from h) h') (List.lt_irrefl _)
def Oa {a b c:Str}(h:yw a b) (h':yw b c):yw a c:=List.lt_trans (show a.cps.toList<b.cps.toList from h) h'
def Oc {ks:Ad}(h:ks.Pairwise yw):aL ks=ks :=
 List.mergeSort_of_pairwise (h.imp λ{a b} q=>wf (List.le_of_lt (show a.cps.toList<b.cps.toList from q)))
def Od {es:List (Str×Tr)}(pw:(es.map (·.1)).Pairwise yw) (h:∀e∈es,a9 e.1=true/\Cz e.2):Cz (.rec_ (es.map (·.1)) (es.map (·.2))):=by
 have nd:(es.map (·.1)).Nodup:=pw.imp λq=>lQ q
 refine ⟨⟨nd,by simp,λk hk=>?_,jO.mpr λt ht=>?_⟩,?_⟩
 ·obtain ⟨e,he,rfl⟩:=j1.mp hk;exact (h e he).1
 ·obtain ⟨e,he,rfl⟩:=j1.mp ht;exact (h e he).2.g
 ·obtain ⟨f,hf⟩:=m6 (ts:=es.map (·.2)) nd (by simp)
  have hc:∀t∈es.map (·.2),cn t=t:=λt ht=>by obtain ⟨e,he,rfl⟩:=j1.mp ht;exact (h e he).2.c
  rw [hf] at hc ⊢
  rw [cn,wN (yu.sub _),Oc pw]
  exact congrArg (Tr.rec_ _) (List.map_congr_left λk hk=>hc _ (List.mem_map_of_mem hk))
def Oe (es:List (Str×Tr)):tx (.rec_ (es.map (·.1)) (es.map (·.2)))=123::(jn (es.map λe=>ent e.1 (tx e.2))++[125]):=by
 have:∀es:List (Str×Tr),List.zipWith ent (es.map (·.1)) (i7 (es.map (·.2)))=es.map λe=>ent e.1 (tx e.2):=λes=>by
  induction es with
  |nil=>rfl
  |cons e es ih=>simp [i7,ih]
 simp only [tx,this]
section
variable {o:Nat} {L:List Nat} {mr:Al} {m:Nat}
def gf {e:za} {s:aj} {p b:Nat} {x:Res PV} (h:s[o]?=some (rd L p b)) (h0:e[0]?=some (sR o)) (hm:mr [.ref o] s=x):(yk "read_part" (jx "ValueReader" mr) (zb 0) zg) e s=x :=
 yg (zc h0) h (by decide) jm yE hm
abbrev bR (mr:Al):Aj:=(jD (wt gP (zb 1) (yk "read_part" (jx "ValueReader" mr) (zb 0) zg)))
def Of {a:aj}{l:Nat}{R:List Nat}(hm:So mr m) (hL:L.length<=100000) (ho:o<a.length) (Dj:a.length<=l) (hR:∀x∈R,x<a.length):∀(k:Nat) (d0:List Tr) (fuel p b:Nat) (s:aj) (ys:An),60<=k+b->b<=60->m<=b->d0.length<=b->Go o L a s p b->p<=L.length->s[l]?=some (.lst ys)->aP (vw R s) d0 ys->k<fuel ->
  (∃s',bB tC (bR mr) fuel [sR o,sR l] s=.err "NoText" [] [] s'/\Ob o a s') \/
  ∃us x s' a8,bB tC (bR mr) fuel [sR o,sR l] s=.ok (.nx [sR o,sR l]) s'/\(∀u∈us,Cz u)/\b+aM us<=60/\L.drop p=jt (us.map tx)++x/\Go o L a s' (p+(jt (us.map tx)).length) (b+aM us)/\s'[l]?=some (.lst a8)/\aP (vw R s') (d0++us) a8:=by
 intro k
 induction k with
 |zero =>
  intro d0 fuel p b s ys hk hb dD hz G hp hl tr hf
  obtain ⟨f,rfl⟩:∃f,fuel=f+1:=⟨fuel-1,by omega⟩
  rcases we (L.drop p) 44 with ⟨r,e0⟩|e0
  ·obtain ⟨g1,g2,g3⟩:=jp e0
   have T:tC [sR o,sR l] s=.ok true (s.set o (rd L (p+1) b)):=zn (ask jq G.at_ rfl (jo G.at_ hp hL e0))
   have G1:Go o L s (s.set o (rd L (p+1) b)) (p+1) b:=Go.set G.at_
   have lo:l≠o:=by omega
   have e_:=G1.ob l _ lo hl
   rcases hm _ L (p+1) b o R G1.at_ (by omega) hL dD hb (λx hx=>G1.lt (G.lt (hR x hx))) with ⟨s2,e2,o2⟩|⟨v,s2,t,x,e2,ct,bz,_⟩
   ·have B:bR mr [sR o,sR l] (s.set o (rd L (p+1) b))=.err "NoText" [] [] s2:=g9 (DE (zc rfl) e_ (gf G1.at_ rfl e2))
    exact .inl ⟨s2,by rw [jj,T,zA,zj rfl,B,wu],(G.ob.trans G1.ob).trans o2⟩
   ·have:=wM t;omega
  ·have T:tC [sR o,sR l] s=.ok false s:=zn (ask jq G.at_ rfl (jh G.at_ hp hL e0))
   exact .inr ⟨[],L.drop p,s,ys,by rw [jj,T,zA];rfl,(λ_ h=>nomatch h),by simpa [aM] using hb,rfl,by simpa [jt,aM] using G,hl,by simpa using tr⟩
 |succ k ih =>
  intro d0 fuel p b s ys hk hb dD hz G hp hl tr hf
  obtain ⟨f,rfl⟩:∃f,fuel=f+1:=⟨fuel-1,by omega⟩
  rcases we (L.drop p) 44 with ⟨r,e0⟩|e0
  ·obtain ⟨g1,g2,g3⟩:=jp e0
   have T:tC [sR o,sR l] s=.ok true (s.set o (rd L (p+1) b)):=zn (ask jq G.at_ rfl (jo G.at_ hp hL e0))
   have G1:Go o L s (s.set o (rd L (p+1) b)) (p+1) b:=Go.set G.at_
   have lo:l≠o:=by omega
   have e_:=G1.ob l _ lo hl
   rcases hm _ L (p+1) b o R G1.at_ (by omega) hL dD hb (λx hx=>G1.lt (G.lt (hR x hx))) with ⟨s2,e2,o2⟩|⟨v,s2,t,x,e2,ct,bz,hd,G2,tv⟩
   ·have B:bR mr [sR o,sR l] (s.set o (rd L (p+1) b))=.err "NoText" [] [] s2:=g9 (DE (zc rfl) e_ (gf G1.at_ rfl e2))
    exact .inl ⟨s2,by rw [jj,T,zA,zj rfl,B,wu],(G.ob.trans G1.ob).trans o2⟩
   ·have eP:=G2.ob l _ lo e_
    have qi:=tr.len
    have B:bR mr [sR o,sR l] (s.set o (rd L (p+1) b))=.ok (.nx [sR o,sR l]) (s2.set l (.lst (ys++[v]))):=jX (pe (zc rfl) e_ (part G1.at_ rfl e2) (by rw [rT,yH eP,zj (by simp [lim];omega)]))
    have D3:Dk (vw R s2) (vw R (s2.set l (.lst (ys++[v])))):=j_ λn ks xs hn e=>⟨hn,by rw [yI (λq=>by rw [<-q,eP] at e;cases e)];exact e⟩
    have G3:Go o L a (s2.set l (.lst (ys++[v]))) (p+1+(tx t).length) (b+sz t):=⟨by rw [yI lo];exact G2.at_,λn so hn e=>by
     rw [yI (by have:=yr e;omega)]
     exact G2.ob n so hn (G1.ob n so hn (G.ob n so hn e))⟩
    have sp:=wM t
    rcases ih (d0++[t]) f (p+1+(tx t).length) (b+sz t) _ (ys++[v]) (by omega) bz (by omega) (by simp;omega) G3 (jg (i:=0) hd (by omega)) (jr (yr eP)) ((aP.mono D3 _ (aP.mono (G2.vw G1.at_) _ (aP.mono (G1.vw G.at_) _ tr))).append ⟨v,[],rfl,TR.mono D3 _ tv,rfl⟩) (by omega) with ⟨s',e',o'⟩|⟨us,x',s',a8,e',cu,bu,aW,G',c4,dj⟩
    ·exact .inl ⟨s',by rw [jj,T,zA,zj rfl,B,zA];exact e',o'⟩
    ·refine .inr ⟨t::us,x',s',a8,by rw [jj,T,zA,zj rfl,B,zA];exact e',λu hu=>?_,by simp only [aM];omega,?_,?_,c4,by simpa using dj⟩
     ·rcases yn.mp hu with q|q
      ·rw [q];exact ct
      ·exact cu u q
     ·rw [e0,<-g3,hd,<-jG hd,aW];simp [jt]
     ·have q1:p+(jt ((t::us).map tx)).length=p+1+(tx t).length+(jt (us.map tx)).length:=by simp [jt];omega
      have q2:b+aM (t::us)=b+sz t+aM us:=by simp only [aM];omega
      rw [q1,q2]
      exact G'
  ·have T:tC [sR o,sR l] s=.ok false s:=zn (ask jq G.at_ rfl (jh G.at_ hp hL e0))
   exact .inr ⟨[],L.drop p,s,ys,by rw [jj,T,zA];rfl,(λ_ h=>nomatch h),by simpa [aM] using hb,rfl,by simpa [jt,aM] using G,hl,by simpa using tr⟩
def Og {s:aj}{p b:Nat}{R:List Nat}(hm:So mr m) (h:s[o]?=some (rd L p b)) (hp:p<=L.length) (hL:L.length<=100000) (dD:m<=b) (hb:b<=60) (hR:∀x∈R,x<s.length):Er (m_ValueReader_read_row mr [.ref o] s) o s \/
  ∃ts ys s1 x,m_ValueReader_read_row mr [.ref o] s=.ok (.tup ys) s1/\(∀t∈ts,Cz t)/\b+aM ts<=60/\L.drop p=jn (ts.map tx)++93::x/\Go o L s s1 (p+(jn (ts.map tx)).length+1) (b+aM ts)/\aP (vw R s1) ts ys:=by
 rcases we (L.drop p) 93 with ⟨r,e0⟩|e0
 ·exact .inr ⟨[],[],_,r,zK rfl (yq (z7 (zn (ask wc h rfl (jo h hp hL e0))) (zJ (A6 yE (by simp))))),(λ_ h=>nomatch h),by simpa [aM] using hb,e0,Go.set h,rfl⟩
 have F:=jh (c:=93) h hp hL e0
 rcases hm s L p b o R h hp hL dD hb hR with ⟨s2,e2,o2⟩|⟨v,s2,t,x,e2,ct,bz,hd,G2,tv⟩
 ·exact .inl ⟨s2,y4 rfl (zm (zG (zn (ask wc h rfl F))) (ji (uA (NZ (NY (gf h rfl e2)))))),o2⟩
 have so:o<s.length:=yr h
 have uf:s.length<=s2.length:=by
  rcases Nat.eq_zero_or_pos s.length with q|q
  ·omega
  ·have:=G2.lt (n:=s.length-1) (by omega);omega
 have sp:=wM t
 have A:∀{X:Res Fl},Cf mr [sR o,sR s2.length] (s2++[.lst [v]])=X->Cg mr [sR o,none] s=X:=λhx=>zm (zG (zn (ask wc h rfl F))) (zm (zV (wv (zD (part h rfl e2)) (by simp))) hx)
 rcases Of (mr:=mr) (a:=s) (l:=s2.length) (R:=R) hm hL so uf hR 60 [t] lim (p+(tx t).length) (b+sz t) (s2++[.lst [v]]) [v] (by omega) bz (by omega) (by simp;omega) (G2.trans (Go.old G2.at_ (yp _ _))) (jg (i:=0) hd hp) (yo _ _) ⟨v,[],rfl,TR.mono (tQ (yp _ _)) _ tv,rfl⟩ (by simp [lim]) with ⟨s',e',o'⟩|⟨us,x',s',a8,e',cu,bu,aW,G',c4,dj⟩
 ·exact .inl ⟨s',y4 rfl (A (ji e')),o'⟩
 have cY:=jg (i:=0) aW (jg (i:=0) hd hp)
 have fz:=jG aW
 rcases we x' 93 with ⟨r,e1⟩|e1
 ·have hd2:L.drop (p+(tx t).length+(jt (us.map tx)).length)=93::r:=by rw [fz];exact e1
  have P:=lI G'.at_ cY hL hd2
  have lo:s2.length≠o:=by omega
  have ug:(s'.set o (rd L (p+(tx t).length+(jt (us.map tx)).length+1) (b+sz t+aM us)))[s2.length]?=some (.lst a8):=by rw [yI (y0 lo)];exact c4
  have G3:=Go.set (p':=p+(tx t).length+(jt (us.map tx)).length+1) (b':=b+sz t+aM us) G'.at_
  refine .inr ⟨t::us,a8,_,r,zK rfl (A (zm e' (zm (jX (must wc G'.at_ rfl P)) (zJ (zv (zD (zc rfl)) (by rw [rS,yH ug])))))),λu hu=>?_,by simp only [aM];omega,?_,?_,aP.mono (G3.vw G'.at_) _ (by simpa using dj)⟩
  ·rcases yn.mp hu with q|q
   ·rw [q];exact ct
   ·exact cu u q
  ·rw [hd,<-jG hd,aW,e1];simp [jn]
  ·have q1:p+(jn ((t::us).map tx)).length+1=p+(tx t).length+(jt (us.map tx)).length+1:=by simp [jn];omega
   have q2:b+aM (t::us)=b+sz t+aM us:=by simp only [aM];omega
   rw [q1,q2]
   exact G'.trans G3
 ·exact .inl ⟨s',y4 rfl (A (zm e' (ji (g9 (ki wc G'.at_ rfl (uB G'.at_ cY hL (by rw [fz];exact e1))))))),G'.ob⟩
end
section
variable {o:Nat} {L:List Nat} {mr:Al} {m:Nat}
def uC {a s:aj}{p b q:Nat}{R:List Nat}{last:Str}{kd:Ad}{us:List Tr}{ys:An}(hm:So mr m) (hL:L.length<=100000) (ho:o<a.length) (ke:a.length<=q) (hR:∀x∈R,x<a.length) (G:Go o L a s p b) (hp:p<=L.length) (dD:m<=b) (hb:b<=60) (hq:s[q]?=some (.dic kd ys)) (tr:aP (vw (q::R) s) us ys)
  (hn:∀k,yw last k->k∉kd) (hl:kd.length<=1000):Er (m_ValueReader_read_entry mr [.ref o,.ref q,.str last] s) o a \/
  ∃s' v k t x,m_ValueReader_read_entry mr [.ref o,.ref q,.str last] s=.ok .non s'/\a9 k=true/\yw last k/\Cz t/\b+sz t<=60/\L.drop p=ent k (tx t)++x/\Go o L a s' (p+(ent k (tx t)).length) (b+sz t)/\s'[q]?=some (.dic (kd++[k]) (ys++[v]))/\aP (vw (q::R) s') (us++[t]) (ys++[v]):=by
 rcases DG G.at_ hp hL with ⟨s1,e1,o1⟩|⟨k,r,s1,e1,hk,d4,G1⟩
 ·exact .inl ⟨s1,y4 rfl (ji (uA (yg (zc rfl) G.at_ (by decide) (zj rfl) yE e1))),G.ob.trans o1⟩
 have A:∀{X:Res Fl},Cj mr [sR o,sR q,some (.str last),some (.str k)] s1=X->sZ mr [sR o,sR q,some (.str last),none] s=X:=λhx=>zm (zV (yg (zc rfl) G.at_ (by decide) (zj rfl) yE e1)) hx
 by_cases bg:yw last k
 rotate_left
 ·exact .inl ⟨s1,y4 rfl (A (ji (z7 (zn (zk (zc rfl) (zc rfl) (N1 bg s1))) (iR ..)))),G.ob.trans G1.ob⟩
 have kf:=jg (i:=0) d4 hp
 have hd2:=jG d4
 have A2:∀{X:Res Fl},Ci mr [sR o,sR q,some (.str last),some (.str k)] s1=X->sZ mr [sR o,sR q,some (.str last),none] s=X:=λhx=>A (zm (zG (zn (zk (zc rfl) (zc rfl) (Dh bg s1)))) hx)
 rcases we r 58 with ⟨r2,e2⟩|e2
 rotate_left
 ·exact .inl ⟨s1,y4 rfl (A2 (ji (g9 (ki lK G1.at_ rfl (uB G1.at_ kf hL (by rw [hd2];exact e2)))))),G.ob.trans G1.ob⟩
 rw [e2] at hd2
 obtain ⟨g1,g2,g3⟩:=jp hd2
 have P:=lI G1.at_ kf hL hd2
 have G2:Go o L s1 _ (p+k.cps.toList.length+1) b:=Go.set G1.at_
 have oq:q≠o:=by omega
 have f_:=G2.ob q _ oq (G1.ob q _ oq hq)
 rcases hm _ L _ b o (q::R) G2.at_ (by omega) hL dD hb (λx hx=>by
  rcases yn.mp hx with e|e
  ·rw [e];exact yr f_
  ·exact G2.lt (G1.lt (G.lt (hR x e)))) with ⟨s3,e3,o3⟩|⟨v,s3,t,x,e3,ct,bz,hd,G3,tv⟩
 ·exact .inl ⟨s3,y4 rfl (A2 (zm (jX (must lK G1.at_ rfl P)) (N0 (gf G2.at_ rfl e3)))),((G.ob.trans G1.ob).trans G2.ob).trans o3⟩
 have nu:=G3.ob q _ oq f_
 have W:=CZ (fo:=zb 1) (fi:=zb 3) (e:=[sR o,sR q,some (.str last),some (.str k)]) (part (mr:=mr) G2.at_ rfl e3) (zc rfl) (zc rfl) nu (hn k bg) hl
 refine .inr ⟨_,v,k,t,x,pR rfl (A2 (zm (jX (must lK G1.at_ rfl P)) W)),hk,bg,ct,bz,?_,⟨?_,λn so cE e=>?_⟩,jr (yr nu),aP.mono (tT _) _ ((aP.mono (G3.vw G2.at_) _ (aP.mono (G2.vw G1.at_) _ (aP.mono (G1.vw G.at_) _ tr))).append ⟨v,[],rfl,tv,rfl⟩)⟩
 ·rw [d4,e2,<-g3,hd];simp [ent]
 ·rw [yI oq,G3.at_]
  have:p+(ent k (tx t)).length=p+k.cps.toList.length+1+(tx t).length:=by simp [ent];omega
  rw [this]
 ·rw [yI (by have:=yr e;omega)]
  exact G3.ob n so cE (G2.ob n so cE (G1.ob n so cE (G.ob n so cE e)))
abbrev eT (e:Str×Tr):List Nat:=ent e.1 (tx e.2)
def DK (es:List (Str×Tr)):tx (.rec_ (es.map (·.1)) (es.map (·.2)))=123::(jn (es.map eT)++[125]):=Oe es
def Oh {a:aj}{q:Nat}{R:List Nat}(hm:So mr m) (hL:L.length<=100000) (ho:o<a.length) (ke:a.length<=q) (hR:∀x∈R,x<a.length):∀(k:Nat) (ed:List (Str×Tr)) (e1:Str×Tr) (fuel p b:Nat) (s:aj) (ys:An),60<=k+b->b<=60->m<=b->ed.length<b->Go o L a s p b->p<=L.length->s[q]?=some (.dic ((ed++[e1]).map (·.1)) ys)->aP (vw (q::R) s) ((ed++[e1]).map (·.2)) ys->((ed++[e1]).map (·.1)).Pairwise yw->k<fuel ->
  (∃s',bB tC (bE mr) fuel [sR o,sR q] s=.err "NoText" [] [] s'/\Ob o a s') \/
  ∃(er:List (Str×Tr)) (x:List Nat) (s':aj) (a8:An),bB tC (bE mr) fuel [sR o,sR q] s=.ok (.nx [sR o,sR q]) s'/\(∀e∈er,a9 e.1=true/\Cz e.2)/\b+aM (er.map (·.2))<=60/\L.drop p=jt (er.map eT)++x/\Go o L a s' (p+(jt (er.map eT)).length) (b+aM (er.map (·.2)))/\s'[q]?=some (.dic ((ed++[e1]++er).map (·.1)) a8)/\aP (vw (q::R) s') ((ed++[e1]++er).map (·.2)) a8/\((ed++[e1]++er).map (·.1)).Pairwise yw:=by
 intro k
 induction k with
 |zero =>
  intro ed e1 fuel p b s ys hk hb dD hz G hp hq tr pw hf
  obtain ⟨f,rfl⟩:∃f,fuel=f+1:=⟨fuel-1,by omega⟩
  rcases we (L.drop p) 44 with ⟨r,e0⟩|e0
  ·obtain ⟨g1,g2,g3⟩:=jp e0
   have T:tC [sR o,sR q] s=.ok true (s.set o (rd L (p+1) b)):=zn (ask jq G.at_ rfl (jo G.at_ hp hL e0))
   have G1:Go o L s (s.set o (rd L (p+1) b)) (p+1) b:=Go.set G.at_
   have oq:q≠o:=by omega
   have eE:=G1.ob q _ oq hq
   have mx:=ue (ks:=ed.map (·.1)) (z:=e1.1) (by simpa using eE) (by simpa using pw)
   rcases uC (a:=a) (last:=e1.1) hm hL ho ke hR (G.trans G1) (by omega) dD hb eE (aP.mono (G1.vw G.at_) _ tr) (λz dM nE=>by
    rw [y8,List.pairwise_append] at pw
    rw [y8] at nE
    rcases j2.mp nE with w|w
    ·exact DJ dM (pw.2.2 z w e1.1 (by simp))
    ·exact lQ dM (show z=e1.1 by simpa using w).symm) (by simp;omega) with ⟨s2,e2,o2⟩|⟨s2,v,kk,t,x,e2,wk,lk,ct,bz,_⟩
   ·exact .inl ⟨s2,by rw [jj,T,zA,zj rfl,show bE mr [sR o,sR q] (s.set o (rd L (p+1) b))=.err "NoText" [] [] s2 from g9 (yg (zc rfl) G1.at_ (by decide) jm (zO (zc rfl) (zv (zD (zc rfl)) mx)) e2),wu],o2⟩
   ·have:=wM t;omega
  ·have T:tC [sR o,sR q] s=.ok false s:=zn (ask jq G.at_ rfl (jh G.at_ hp hL e0))
   exact .inr ⟨[],L.drop p,s,ys,by rw [jj,T,zA];rfl,(λ_ h=>nomatch h),by simpa [aM] using hb,rfl,by simpa [jt,aM] using G,by simpa using hq,by simpa using tr,by simpa using pw⟩
 |succ k ih =>
  intro ed e1 fuel p b s ys hk hb dD hz G hp hq tr pw hf
  obtain ⟨f,rfl⟩:∃f,fuel=f+1:=⟨fuel-1,by omega⟩
  rcases we (L.drop p) 44 with ⟨r,e0⟩|e0
  ·obtain ⟨g1,g2,g3⟩:=jp e0
   have T:tC [sR o,sR q] s=.ok true (s.set o (rd L (p+1) b)):=zn (ask jq G.at_ rfl (jo G.at_ hp hL e0))
   have G1:Go o L s (s.set o (rd L (p+1) b)) (p+1) b:=Go.set G.at_
   have oq:q≠o:=by omega
   have eE:=G1.ob q _ oq hq
   have mx:=ue (ks:=ed.map (·.1)) (z:=e1.1) (by simpa using eE) (by simpa using pw)
   have uD:=pw
   rw [y8,List.pairwise_append] at uD
   rcases uC (a:=a) (last:=e1.1) hm hL ho ke hR (G.trans G1) (by omega) dD hb eE (aP.mono (G1.vw G.at_) _ tr) (λz dM nE=>by
    rw [y8] at nE
    rcases j2.mp nE with w|w
    ·exact DJ dM (uD.2.2 z w e1.1 (by simp))
    ·exact lQ dM (show z=e1.1 by simpa using w).symm) (by simp;omega) with ⟨s2,e2,o2⟩|⟨s2,v,kk,t,x,e2,wk,lk,ct,bz,hd,G2,f_,uo⟩
   ·exact .inl ⟨s2,by rw [jj,T,zA,zj rfl,show bE mr [sR o,sR q] (s.set o (rd L (p+1) b))=.err "NoText" [] [] s2 from g9 (yg (zc rfl) G1.at_ (by decide) jm (zO (zc rfl) (zv (zD (zc rfl)) mx)) e2),wu],o2⟩
   ·have B:bE mr [sR o,sR q] (s.set o (rd L (p+1) b))=.ok (.nx [sR o,sR q]) s2:=jX (yg (zc rfl) G1.at_ (by decide) jm (zO (zc rfl) (zv (zD (zc rfl)) mx)) e2)
    have sp:=wM t
    have Oi:((ed++[e1]++[(kk,t)]).map (·.1)).Pairwise yw:=by
     rw [y8,List.pairwise_append]
     refine ⟨pw,by simp,λz dM y hy=>?_⟩
     obtain rfl:y=kk:=by simpa using hy
     rw [y8] at dM
     rcases j2.mp dM with w|w
     ·exact Oa (uD.2.2 z w e1.1 (by simp)) lk
     ·rw [show z=e1.1 by simpa using w];exact lk
    rcases ih (ed++[e1]) (kk,t) f (p+1+(ent kk (tx t)).length) (b+sz t) s2 (ys++[v]) (by omega) bz (by omega) (by simp;omega) G2 (jg (i:=0) hd (by omega)) (by simpa using f_) (by simpa using uo) Oi (by omega) with ⟨s',e',o'⟩|⟨er,x',s',a8,e',cu,bu,aW,G',dX,dj,p8⟩
    ·exact .inl ⟨s',by rw [jj,T,zA,zj rfl,B,zA];exact e',o'⟩
    ·refine .inr ⟨(kk,t)::er,x',s',a8,by rw [jj,T,zA,zj rfl,B,zA];exact e',λu hu=>?_,by simp only [yi,aM];omega,?_,?_,by simpa using dX,by simpa using dj,by simpa using p8⟩
     ·rcases yn.mp hu with w|w
      ·rw [w];exact ⟨wk,ct⟩
      ·exact cu u w
     ·rw [e0,<-g3,hd,<-jG hd,aW];simp [jt]
     ·have q1:p+(jt (((kk,t)::er).map eT)).length=p+1+(ent kk (tx t)).length+(jt (er.map eT)).length:=by rw [yi,show eT (kk,t)=ent kk (tx t) from rfl];simp only [jt,yA,jc];omega
      have q2:b+aM (((kk,t)::er).map (·.2))=b+sz t+aM (er.map (·.2)):=by simp only [yi,aM];omega
      rw [q1,q2]
      exact G'
  ·have T:tC [sR o,sR q] s=.ok false s:=zn (ask jq G.at_ rfl (jh G.at_ hp hL e0))
   exact .inr ⟨[],L.drop p,s,ys,by rw [jj,T,zA];rfl,(λ_ h=>nomatch h),by simpa [aM] using hb,rfl,by simpa [jt,aM] using G,by simpa using hq,by simpa using tr,by simpa using pw⟩
def Oj {s:aj}{p b:Nat}{R:List Nat}(hm:So mr m) (h:s[o]?=some (rd L p b)) (hp:p<=L.length) (hL:L.length<=100000) (dD:m<=b) (hb:b<=60) (hR:∀x∈R,x<s.length):Er (m_ValueReader_read_record mr [.ref o] s) o s \/
  ∃(es:List (Str×Tr)) (v:PV) (s1:aj) (x:List Nat),m_ValueReader_read_record mr [.ref o] s=.ok v s1/\(∀e∈es,a9 e.1=true/\Cz e.2)/\(es.map (·.1)).Pairwise yw/\b+aM (es.map (·.2))<=60/\L.drop p=jn (es.map eT)++125::x/\Go o L s s1 (p+(jn (es.map eT)).length+1) (b+aM (es.map (·.2)))/\TR (vw R s1) (.rec_ (es.map (·.1)) (es.map (·.2))) v:=by
 have so:o<s.length:=yr h
 have ls:s.length∉R:=λq=>by have:=hR _ q;omega
 rcases we (L.drop p) 125 with ⟨r,e0⟩|e0
 ·have G1:Go o L s (s.set o (rd L (p+1) b)) (p+1) b:=Go.set h
  refine .inr ⟨[],.ref (s.set o (rd L (p+1) b)).length,_,r,zK rfl (yq (z7 (zn (ask wQ h rfl (jo h hp hL e0))) (zJ rfl))),(λ_ h=>nomatch h),.nil,by simpa [aM] using hb,e0,G1.trans (Go.old G1.at_ (yp _ _)),?_⟩
  exact ⟨_,[],rfl,fZ.mpr ⟨by rw [List.length_set];exact ls,yo _ _⟩,.nil,rfl,rfl,λ_ h=>nomatch h⟩
 have F:=jh (c:=125) h hp hL e0
 have G0:Go o L s (s++[.dic [] []]) p b:=Go.old h (yp _ _)
 have A:∀{X:Res Fl},Cm mr [sR o,sR s.length] (s++[.dic [] []])=X->s8 mr [sR o,none] s=X:=λhx=>zm (zG (zn (ask wQ h rfl F))) (zm (zV rfl) hx)
 rcases uC (a:=s) (q:=s.length) (R:=R) (last := "") (us:=[]) (ys:=[]) hm hL so (z0 _) hR G0 hp dD hb (yo _ _) rfl (λ_ _ h=>nomatch h) (by simp) with ⟨s1,e1,o1⟩|⟨s1,v,k,t,x,e1,wk,lk,ct,bz,hd,G1,eE,uq⟩
 ·exact .inl ⟨s1,y4 rfl (A (ji (g9 (yg (zc rfl) G0.at_ (by decide) jm (zO (zc rfl) rfl) e1)))),o1⟩
 have sp:=wM t
 have A2:∀{X:Res Fl},Ck mr [sR o,sR s.length] s1=X->s8 mr [sR o,none] s=X:=λhx=>A (zm (jX (yg (zc rfl) G0.at_ (by decide) jm (zO (zc rfl) rfl) e1)) hx)
 rcases Oh (mr:=mr) (a:=s) (q:=s.length) (R:=R) hm hL so (z0 _) hR 60 [] (k,t) lim (p+(ent k (tx t)).length) (b+sz t) s1 [v] (by omega) bz (by omega) (by simp;omega) G1 (jg (i:=0) hd hp) eE uq (by simp) (by simp [lim]) with ⟨s',e',o'⟩|⟨er,x',s',a8,e',cu,bu,aW,G',dX,dj,p8⟩
 ·exact .inl ⟨s',y4 rfl (A2 (ji e')),o'⟩
 have cY:=jg (i:=0) aW (jg (i:=0) hd hp)
 have fz:=jG aW
 rcases we x' 125 with ⟨r,e2⟩|e2
 ·have hd2:L.drop (p+(ent k (tx t)).length+(jt (er.map eT)).length)=125::r:=by rw [fz];exact e2
  have P:=lI G'.at_ cY hL hd2
  have G3:=Go.set (p':=p+(ent k (tx t)).length+(jt (er.map eT)).length+1) (b':=b+sz t+aM (er.map (·.2))) G'.at_
  have ur:s.length≠o:=by omega
  have hw:∀e∈(k,t)::er,a9 e.1=true/\Cz e.2:=λu hu=>by
   rcases yn.mp hu with w|w
   ·rw [w];exact ⟨wk,ct⟩
   ·exact cu u w
  refine .inr ⟨(k,t)::er,.ref s.length,_,r,zK rfl (A2 (zm e' (zm (jX (must wQ G'.at_ rfl P)) (zJ (zc rfl))))),hw,by simpa using p8,by simp only [yi,aM];omega,?_,?_,?_⟩
  ·rw [hd,<-jG hd,aW,e2];simp [jn]
  ·have q1:p+(jn (((k,t)::er).map eT)).length+1=p+(ent k (tx t)).length+(jt (er.map eT)).length+1:=by rw [yi,show eT (k,t)=ent k (tx t) from rfl];simp only [jn,jc];omega
   have q2:b+aM (((k,t)::er).map (·.2))=b+sz t+aM (er.map (·.2)):=by simp only [yi,aM];omega
   rw [q1,q2]
   exact G'.trans G3
  ·have tl:=dj.len
   refine ⟨s.length,a8,rfl,fZ.mpr ⟨ls,by rw [yI (y0 ur)];simpa using dX⟩,?_,by simpa using tl,aP.mono tU _ (aP.mono (G3.vw G'.at_) _ (by simpa using dj)),λz hz=>?_⟩
   ·exact (show (((k,t)::er).map (·.1)).Pairwise yw by simpa using p8).imp λq=>lQ q
   ·obtain ⟨e,he,rfl⟩:=j1.mp hz
    have:=jb (hw e he).1;omega
 ·exact .inl ⟨s',y4 rfl (A2 (zm e' (ji (g9 (ki wQ G'.at_ rfl (uB G'.at_ cY hL (by rw [fz];exact e2))))))),G'.ob⟩
end
def Ol {i:Int}(g:gd (.num i)):Cz (.num i):=⟨g,rfl⟩
def Om {z:Str}(g:a9 z=true):Cz (.word z):=⟨g,rfl⟩
def Oo:∀n:Nat,So (wz n) (61-n):=by
 intro n
 induction n with
 |zero=>intro s L p b o R h hp hL dD hb hR;omega
 |succ n ih =>
  intro s L p b o R h hp hL dD hb hR
  show Got (m_ValueReader_read_part (wz n) [.ref o] s) o L s p b R
  have G1:Go o L s (s.set o (rd L p (b+1))) p (b+1):=Go.set h
  have R1:∀x∈R,x<(s.set o (rd L p (b+1))).length:=λx hx=>G1.lt (hR x hx)
  by_cases kT:b+1<=60
  rotate_left
  ·exact .inl ⟨_,y4 rfl (zm (ua rfl h) (ji (z7 (zn (zk (yL (zc rfl) (tZ G1.at_)) rfl (dq true (by rw [yZ];omega) _))) (iR ..)))),G1.ob⟩
  have A:∀{X:Res Fl},tj (wz n) [sR o] (s.set o (rd L p (b+1)))=X->tm (wz n) [sR o] s=X:=λhx=>zm (ua rfl h) (zm (zG (zn (zk (yL (zc rfl) (tZ G1.at_)) rfl (dq false (by rw [decide_eq_false_iff_not];omega) _)))) hx)
  rcases we (L.drop p) 39 with ⟨r,e0⟩|e0
  ·obtain ⟨g1,g2,g3⟩:=jp e0
   have P:=jo G1.at_ hp hL e0
   have G2:=Go.set (p':=p+1) (b':=b+1) G1.at_
   rcases DG G2.at_ (by omega) hL with ⟨s2,e2,o2⟩|⟨z,x,s2,e2,hz,hd,G3⟩
   ·exact .inl ⟨s2,y4 rfl (A (ji (z7 (zn (ask wb G1.at_ rfl P)) (p5 (yg (zc rfl) G2.at_ (by decide) (zj rfl) yE e2))))),(G1.ob.trans G2.ob).trans o2⟩
   ·refine .inr ⟨.str z,s2,.word z,x,zK rfl (A (yq (z7 (zn (ask wb G1.at_ rfl P)) (zJ (yg (zc rfl) G2.at_ (by decide) (zj rfl) yE e2))))),Om hz,kT,?_,?_,rfl,by have:=jb hz;omega⟩
    ·rw [e0,<-g3,hd];rfl
    ·have q1:p+(tx (.word z)).length=p+1+z.cps.toList.length:=by simp [tx];omega
     rw [q1]
     exact G1.trans (G2.trans G3)
  have F1:=jh (c:=39) G1.at_ hp hL e0
  rcases we (L.drop p) 91 with ⟨r,e1⟩|e1
  ·obtain ⟨g1,g2,g3⟩:=jp e1
   have P:=jo G1.at_ hp hL e1
   have G2:=Go.set (p':=p+1) (b':=b+1) G1.at_
   rcases Og (R:=R) ih G2.at_ (by omega) hL (by omega) kT (λx hx=>G2.lt (R1 x hx)) with ⟨s2,e2,o2⟩|⟨ts,ys,s2,x,e2,ct,bz,hd,G3,tr⟩
   ·exact .inl ⟨s2,y4 rfl (A (zm (zG (zn (ask wb G1.at_ rfl F1))) (ji (z7 (zn (ask j0 G1.at_ rfl P)) (p5 (yg (zc rfl) G2.at_ (by decide) jm yE e2)))))),(G1.ob.trans G2.ob).trans o2⟩
   ·refine .inr ⟨.tup ys,s2,.row ts,x,zK rfl (A (zm (zG (zn (ask wb G1.at_ rfl F1))) (yq (z7 (zn (ask j0 G1.at_ rfl P)) (zJ (yg (zc rfl) G2.at_ (by decide) jm yE e2)))))),N_ ct,by simp only [sz];omega,?_,?_,ys,rfl,tr⟩
    ·rw [e1,<-g3,hd,i9];simp
    ·have q1:p+(tx (.row ts)).length=p+1+(jn (ts.map tx)).length+1:=by rw [i9];simp;omega
     have q2:b+sz (.row ts)=b+1+aM ts:=by simp only [sz];omega
     rw [q1,q2]
     exact G1.trans (G2.trans G3)
  have F2:=jh (c:=91) G1.at_ hp hL e1
  rcases we (L.drop p) 123 with ⟨r,e2⟩|e2
  ·obtain ⟨g1,g2,g3⟩:=jp e2
   have P:=jo G1.at_ hp hL e2
   have G2:=Go.set (p':=p+1) (b':=b+1) G1.at_
   rcases Oj (R:=R) ih G2.at_ (by omega) hL (by omega) kT (λx hx=>G2.lt (R1 x hx)) with ⟨s2,e3,o2⟩|⟨es,v,s2,x,e3,ce,pw,bz,hd,G3,tr⟩
   ·exact .inl ⟨s2,y4 rfl (A (zm (zG (zn (ask wb G1.at_ rfl F1))) (zm (zG (zn (ask j0 G1.at_ rfl F2))) (ji (z7 (zn (ask f9 G1.at_ rfl P)) (p5 (yg (zc rfl) G2.at_ (by decide) jm yE e3))))))),(G1.ob.trans G2.ob).trans o2⟩
   ·refine .inr ⟨v,s2,_,x,zK rfl (A (zm (zG (zn (ask wb G1.at_ rfl F1))) (zm (zG (zn (ask j0 G1.at_ rfl F2))) (yq (z7 (zn (ask f9 G1.at_ rfl P)) (zJ (yg (zc rfl) G2.at_ (by decide) jm yE e3))))))),Od pw ce,by simp only [sz];omega,?_,?_,tr⟩
    ·rw [e2,<-g3,hd,DK];simp
    ·have q1:p+(tx (.rec_ (es.map (·.1)) (es.map (·.2)))).length=p+1+(jn (es.map eT)).length+1:=by rw [DK];simp only [yA,jc,List.length_nil];omega
     have q2:b+sz (.rec_ (es.map (·.1)) (es.map (·.2)))=b+1+aM (es.map (·.2)):=by simp only [sz];omega
     rw [q1,q2]
     exact G1.trans (G2.trans G3)
  have F3:=jh (c:=123) G1.at_ hp hL e2
  rcases N9 G1.at_ hp hL with ⟨s2,e3,o2⟩|⟨i,x,s2,e3,gi,hd,G3⟩
  ·exact .inl ⟨s2,y4 rfl (A (zm (zG (zn (ask wb G1.at_ rfl F1))) (zm (zG (zn (ask j0 G1.at_ rfl F2))) (zm (zG (zn (ask f9 G1.at_ rfl F3))) (p5 (yg (zc rfl) G1.at_ (by decide) (zj rfl) yE e3)))))),G1.ob.trans o2⟩
  ·exact .inr ⟨.int i,s2,.num i,x,zK rfl (A (zm (zG (zn (ask wb G1.at_ rfl F1))) (zm (zG (zn (ask j0 G1.at_ rfl F2))) (zm (zG (zn (ask f9 G1.at_ rfl F3))) (zJ (yg (zc rfl) G1.at_ (by decide) (zj rfl) yE e3)))))),Ol gi,kT,hd,G1.trans G3,rfl⟩
def DL (L:List Nat) (hL:L.length<=100000) (st:aj):(∃s',iV [.str (S L)] st=.err "NoText" [] [] s'/\Old st s')\/∃v s1 t,iV [.str (S L)] st=.ok v s1/\Cz t/\sz t<=60/\tx t=L/\TR s1 t v/\Old st s1:=by
 have h0:(st++[rd L 0 0])[st.length]?=some (rd L 0 0):=yo _ _
 have A:∀{X:Res Fl},Cs [some (.str (S L)),sR st.length,none] (st++[rd L 0 0])=X->tD [some (.str (S L)),none,none] st=X:=λhx=>zm (zG (ja (b:=true) (zn (zv (zO (zc rfl) rfl) (show yv [.str (S L),.ty "str"] st=.ok (.bl true) st from rfl))))) (zm (zV (zv (zD (zc rfl)) (Dp _ st))) hx)
 have old:∀{s1:aj},Ob st.length (st++[rd L 0 0]) s1->Old st s1:=λob n so e=>ob n so (by have:=yr e;omega) (yp _ _ n so e)
 rcases Oo 61 (st++[rd L 0 0]) L 0 0 st.length [] h0 (jP _) hL (by omega) (by omega) (λ_ h=>nomatch h) with ⟨s1,e1,o1⟩|⟨v,s1,t,x,e1,ct,bz,hd,G,tv⟩
 ·exact .inl ⟨s1,y4 rfl (A (ji (uA (yg (zc rfl) h0 (by decide) jm yE e1)))),old o1⟩
 have hd:L=tx t++x:=hd
 have A2:∀{X:Res Fl},Cr [some (.str (S L)),sR st.length,some v] s1=X->tD [some (.str (S L)),none,none] st=X:=λhx=>A (zm (zV (yg (zc rfl) h0 (by decide) jm yE e1)) hx)
 have P:=wP G.at_
 rw [Nat.zero_add] at P
 cases hx:x with
 |nil =>
  have e:tx t=L:=by rw [hd,hx];simp
  refine .inr ⟨v,s1,t,zK rfl (A2 (zm (zG (zn (zk (yL (zc rfl) P) (zv (zD (zc rfl)) (len_str hL)) (g0 false (by rw [decide_eq_false_iff_not,e];omega) _)))) (zJ (zc rfl)))),ct,by omega,e,TR.mono tS _ tv,old G.ob⟩
 |cons c r =>
  have hl:L.length=(tx t).length+(r.length+1):=by rw [hd,hx];simp
  exact .inl ⟨s1,y4 rfl (A2 (ji (z7 (zn (zk (yL (zc rfl) P) (zv (zD (zc rfl)) (len_str hL)) (g0 true (by rw [yZ];omega) _))) (iR ..)))),old G.ob⟩
def Fz (S:List Nat) (a b:aj):Prop:=∀(m:Nat) so,m∉S->a[m]?=some so->b[m]?=some so
def Fz.old {S:List Nat}{a b c:aj}(h:Fz S a b) (o:Old b c):Fz S a c:=λm so n e=>o m so (h m so n e)
def y6 {b:Bool}{x:PV}{n:String}{e:za}{st:aj}{T:String}{i:Nat}(h0:e[i]?=some (some x)) (h:yv [x,.ty n] st=cy (bG T n) st) (hb:bG T n=some b):(mB (zo yv (ze (zb i) (ze (mC (.ty n)) zg)))) e st=.ok b st :=
 zn (zv (zO (zc h0) rfl) (h.trans (by rw [hb];rfl)))
def DM {n:Nat} {ks:Ad} {xs:An} {st:aj} (h:st[n]?=some (.dic ks xs)) (t:String):yv [.ref n,.ty t] st=cy (bG "dict" t) st:=by
 have e:tyP st (.ref n)=some "dict" := by show pz st[n]?=_;rw [h];rfl
 simp only [yv,e]
def Oq (is:List Int):di (is.map PV.int)=some is:=by
 induction is with
 |nil=>rfl
 |cons i r ih=>simp [di,ih]
def DN {st:aj}{r:Nat}{is:List Int}(h:st[r]?=some (.lst (is.map PV.int))):mM [.ref r] st=.ok (.int is.sum) st:=by
 have im:=Oq is
 simp [yH h,im]
def DO {st s':aj}{q:Nat}{ks:Ad}{xs:An}(gq:st[q]?=some (.dic ks xs)) (o:Old (st.set q (.fdi ks xs)) s'):Old st (s'.set q (.dic ks xs)):=λm so e=>by
 have hq:q<s'.length:=yr (o q _ (jr (yr gq)))
 by_cases hm:q=m
 ·subst hm
  rw [gq] at e
  cases e
  rw [jr hq]
 ·rw [yI hm]
  exact o m so (by rw [yI hm];exact e)
def DP {a:aj}{S:List Nat}{t u:Tr}{q:Nat}(big:∀m∈S,∃u',TR a u' (.ref m)/\dp t<dp u') (tq:TR a t (.ref q)) (hu:dp u<dp t):∀m∈q::S,∃u',TR a u' (.ref m)/\dp u<dp u':=λm hm=>by
 rcases yn.mp hm with e|e
 ·rw [e];exact ⟨t,tq,hu⟩
 ·obtain ⟨u',h1,h2⟩:=big m e
  exact ⟨u',h1,by omega⟩
def DQ {S:List Nat}{a st:aj}{q:Nat}{so:SO}(F:Fz S a st):Fz (q::S) a (st.set q so):=λm x hm e=>by
 rw [yI (λz=>hm (by rw [z];exact zY ..))]
 exact F m x (λh=>hm (yd _ h)) e
def DR {a:aj}{S:List Nat}{t:Tr}{q:Nat}(big:∀m∈S,∃u',TR a u' (.ref m)/\dp t<dp u') (tq:TR a t (.ref q)):q∉S:=λhm=>by
 obtain ⟨u,hu,hs⟩:=big q hm
 rw [TR.one _ _ tq hu] at hs
 omega
theorem DS {g:PV->za->Option za}{body:Aj}(ks:Ad) (I:Nat->za->aj->Prop) (step:∀i k e st,ks[i]?=some k->I i e st->∃e1 e2 aK,g (.str k) e=some e1/\body e1 st=.ok (.nx e2) aK/\I (i+1) e2 aK) :
  ∀(k i:Nat) (e:za) (st:aj),i+k=ks.length->I i e st->∃e' aR,dR g body ((ks.drop i).map PV.str) e st=.ok e' aR/\I ks.length e' aR
 |0,i,e,st,hk,h=>⟨e,st,by rw [kJ (by omega)];rfl,by rw [<-hk];exact h⟩
 |k+1,i,e,st,hk,h=>by
  have hx:ks[i]?=some (ks[i]'(by omega)):=yc (by omega)
  obtain ⟨e1,e2,aK,h1,h2,h3⟩:=step i _ e st hx h
  obtain ⟨e',aR,r,h4⟩:=DS ks I step k (i+1) e2 aK (by omega) h3
  refine ⟨e',aR,?_,h4⟩
  rw [fJ (by omega),yi]
  unfold dR
  rw [h1]
  simp only
  rw [h2]
  simp only [iL,zA]
  exact r
def Ot {fo:Ai}{g:PV->za->Option za}{body:Aj}{e e':za}{st s':aj}{q:Nat}{ks:Ad}{xs:An}(ho:fo e st=.ok (.ref q) st) (hq:st[q]?=some (.dic ks xs)) (h:dR g body (ks.map PV.str) e (st.set q (.fdi ks xs))=.ok e' s') (o:Old (st.set q (.fdi ks xs)) s'):o8 fo g body e st=.ok (.nx e') (s'.set q (.dic ks xs)):=by
 rw [Ko,ho,zA,A4,iP hq,h]
 simp only [iL,zA]
 rw [A5 (o q _ (jr (yr hq)))]
def Ou {fo fe:Ai}{e:za}{st s1:aj}{q:Nat}{ks:Ad}{xs ys:An}(ho:fo e st=.ok (.ref q) st) (gq:st[q]?=some (.dic ks xs)) (C:dB fe e xs [] (st.set q (.fdi ks xs))=.ok ys s1) (o:Old (st.set q (.fdi ks xs)) s1):ph fo fe e st=.ok (.ref s1.length) ((s1++[SO.lst ys]).set q (.dic ks xs)):=by
 unfold ph
 rw [ho,zA,A4,iP gq,C]
 simp only [iL,zA]
 rw [A5 (yp _ _ _ _ (o q _ (jr (yr gq))))]
def uE {m:Al}{fs:Ah}{e:za}{st s1:aj}{xs:An}{X:Res PV}(h:fs e st=.ok xs s1) (h2:m xs s1=X):eX m fs e st=X:=by
 unfold eX
 rw [h,iL,zA,h2]
section
variable {i j:Nat} {sub:Str->Bool} {fv:Ai} {bh:Aj} {e:za} {st s1 s2:aj} {c:Str} {v:PV}
def Ov (hv:fv e st=.err c [] [] s1) (hc:sub c=true) (hs:bh (e.set j (some (.exo c [] []))) s1=.ok (.rt v) s2):mT j sub fv bh e st=.ok (.rt v) s2:=by
 unfold mT
 rw [hv]
 simp only
 rw [zj hc,hs]
 rfl
def Ow (hv:fv e st=.err c [] [] s1) (hc:sub c=true) (hs:bh (e.set j (some (.exo c [] []))) s1=.ok (.rt v) s2):iS i j sub fv bh e st=.ok (.rt v) s2:=by
 unfold iS
 rw [hv]
 simp only
 rw [zj hc,hs]
 rfl
def Ox (hv:fv e st=.ok v s1):iS i j sub fv bh e st=.ok (.nx (e.set i (some v))) s1:=by
 unfold iS
 rw [hv]
end
def Oy {fa fb fc:Ai}{e:za}{s:aj}{i j k:Int}(h1:fa e s=.ok (.int i) s) (h2:fb e s=.ok (.int j) s) (h3:fc e s=.ok (.int k) s) (cA:i<j) (mI:j<k):jI wH wH fa fb fc e s=.ok (.bl true) s:=by
 unfold jI
 rw [h1,zA,h2,zA,sh,zA,wf cA,mJ,zA,zj rfl,h3,zA,sh,wf mI]
def Oz {z:Str} (h:a9 z=true) {e:za} {s:aj} (h0:e[0]?=some (some (.str z))):∃s1,zo iO (ze (yU (jE (zb 0)) (zf (jv false) (zb 0) (As "abcdefghijklmnopqrstuvwxyz"))) zg) e s=.ok (.bl true) s1/\Old s s1:=by
 have hz:=jb h
 have hc:∀c∈z.cps.toList,c∈abc.cps.toList:=by
  simp only [a9,yC,List.all_eq_true,yZ] at h
  exact h.2
 have hn:(signs z).length=z.length:=by simp [signs,Str.length]
 obtain ⟨ys,s1,C,hy,hs⟩:=iX (fe:=(zf (jv false) (zb 0) (As "abcdefghijklmnopqrstuvwxyz"))) (env:=e) (signs z) (λi ys s'=>ys=(List.replicate i true).map PV.bl/\s'=s) (λi x ys s' hx ⟨h1,h2⟩=>by
  unfold signs at hx
  rw [y7] at hx
  cases e:z.cps.toList[i]? with
  |none=>rw [e] at hx;cases hx
  |some c =>
   rw [e] at hx
   cases hx
   refine ⟨.bl true,s',zk (zc rfl) rfl ((in_str c _).trans (by rw [wf (hc c (jy e))])),?_,h2⟩
   rw [h1,List.replicate_succ',y8];rfl) (signs z).length 0 [] s (by omega) ⟨rfl,rfl⟩
 subst hs
 refine ⟨s1++[.lst ys],?_,yp _ _⟩
 have A:=se (st:=s1++[.lst ys]) (n:=s1.length) (bs:=List.replicate (signs z).length true) (by rw [<-hy];exact yo _ _)
 rw [m5] at A
 refine zv (zD ?_) A
 rw [gQ,k_,zc h0,zA]
 show cU _ _ (.im (signs z)) s1=_
 rw [lg,zj (by rw [hn];simp [lim];omega)]
 exact C
def DT (n d:Nat) (hd:d<=60) {z:Str}(h:a9 z=true) (st:aj):∃s1,wA (n+1) [.str z,.int (d:Int)] st=.ok (.bl true) s1/\Old st s1:=by
 have e:∀n,yv [.str z,.ty n] st=cy (bG "str" n) st:=λ_=>rfl
 have hz:=jb h
 obtain ⟨s1,e1,o1⟩:=Oz (e:=[some (.str z),sI d,none]) (s:=st) h rfl
 exact ⟨s1,zK (m:=2) (n:=3) (xs:=[.str z,.int (d:Int)]) (g:=mZ (wA n)) rfl (zm (zG (jw (y6 rfl (e _) Mr) (zn (zk (zc rfl) rfl (dq false (by rw [decide_eq_false_iff_not];omega) _))))) (zm (zG (y6 rfl (e _) t8)) (yq (z7 (y6 rfl (e _) t5) (zJ (pd (lJ rfl (zv (zD (zc rfl)) (p7 (by omega) st)) rfl (by omega) true (by simp;omega)) e1)))))),o1⟩
def OA {a:aj}:∀(n:Nat) (t:Tr) (v:PV) (d:Nat) (S:List Nat) (st:aj),gd t->dp t+1<n->d+dp t<=60->sz t<=60->Fz S a st->(∀m∈S,∃u',TR a u' (.ref m)/\dp t<dp u')->TR a t v->∃s1,wA n [v,.int (d:Int)] st=.ok (.bl true) s1/\Old st s1:=by
 intro n
 induction n with
 |zero=>intro t v d S st _ h;omega
 |succ n ih =>
  intro t v d S st g hn hd hz F big tv
  have D:∀{w:PV},(mB (zf jS (zb 1) (Ar 60))) [some w,sI d,none] st=.ok false st:=λ{w}=>zn (zk (zc rfl) rfl (dq false (by rw [decide_eq_false_iff_not];omega) _))
  cases t with
  |num i =>
   obtain rfl:v=.int i:=tv
   have gi : -1000000000000000000<i/\i<1000000000000000000:=g
   have e:∀n,yv [.int i,.ty n] st=cy (bG "int" n) st:=λ_=>rfl
   refine ⟨st,zK (m:=2) (n:=3) (xs:=[.int i,.int (d:Int)]) (g:=mZ (wA n)) rfl (zm (zG (jw (y6 rfl (e _) Mq) D)) (yq (z7 (y6 rfl (e _) t4) (zJ (Oy (yL (zk rfl rfl (ng st)) (xU _)) (zc rfl) (zk rfl rfl (ng st)) (by omega) (by omega)))))),Old.refl _⟩
  |word z =>
   obtain ⟨rfl,_⟩:=tv
   exact DT n d (by omega) g st
  |row ts =>
   obtain ⟨xs,rfl,tr⟩:=tv
   have e:∀n,yv [.tup xs,.ty n] st=cy (bG "tuple" n) st:=λ_=>rfl
   have g':=jO.mp g
   simp only [dp] at hn hd big
   simp only [sz] at hz
   have hl:=tr.len
   have mw:=iW ts
   obtain ⟨ys,s1,C,hy,o1⟩:=iX (fe:=(zo (wA n) (ze (zb 0) (ze (zf zB (zb 2) (Ar 1)) zg)))) (env:=[some (.tup xs),sI d,none]) xs (λi ys s'=>ys=(List.replicate i true).map PV.bl/\Old st s') (λi x ys s' hx ⟨h1,h2⟩=>by
    obtain ⟨u,hu,tu⟩:=tr.get hx
    have hm:=jy hu
    have:=j9 hm
    have:=fE hm
    obtain ⟨s2,e2,o2⟩:=ih u x (d+1) S s' (g' u hm) (by omega) (by omega) (by omega) (F.old h2) (λm uF=>by obtain ⟨u',q1,q2⟩:=big m uF;exact ⟨u',q1,by omega⟩) tu
    refine ⟨.bl true,s2,zv (zO (zc rfl) (zk (zc rfl) rfl (jl _ _))) e2,?_,h2.trans o2⟩
    rw [h1,List.replicate_succ',y8];rfl) xs.length 0 [] st (by omega) ⟨rfl,Old.refl _⟩
   have A:=se (st:=s1++[.lst ys]) (n:=s1.length) (bs:=List.replicate xs.length true) (by rw [<-hy];exact yo _ _)
   rw [m5] at A
   refine ⟨s1++[.lst ys],zK (m:=2) (n:=3) (xs:=[.tup xs,.int (d:Int)]) (g:=mZ (wA n)) rfl (zm (zG (jw (y6 rfl (e _) Ms) D)) (zm (zG (y6 rfl (e _) Mm)) (zm (zG (y6 rfl (e _) t9)) (yq (z7 (y6 rfl (e _) CF) (zJ (zv (zD ?_) A))))))),o1.trans (yp _ _)⟩
   rw [gQ,k_,zc rfl,zA]
   show cU _ _ (.im xs) st=_
   rw [lg,zj (by simp [lim];omega)]
   exact C
  |rec_ ks ts =>
   have nF:=tv
   obtain ⟨q,xs,rfl,uG,nd,ll,tr,_⟩:=tv
   obtain ⟨_,hl,hw,gg⟩:=g
   have g':=jO.mp gg
   have nq:=DR big nF
   have gq:st[q]?=some (.dic ks xs):=F q _ nq uG
   have e:=DM gq
   have p9:(st.set q (.fdi ks xs))[q]?=some (.fdi ks xs):=jr (yr gq)
   have cE:=hn
   have aW:=hd
   simp only [dp] at cE aW
   simp only [sz] at hz
   obtain ⟨e',s1,R,⟨_,OB⟩,o1⟩:=DS (g:=gN 2) (body:=(zt (zM (ju (yT (mB (zo yv (ze (zb 2) (ze (mC (.ty "str")) zg))))) (yT (mB (zo (wA n) (ze (zb 2) (ze (Ar 0) zg))))))
     (zF (mC (.bl false)))
     zN)
     (zM (yT (mB (zo (wA n) (ze (zf gT (zb 0) (zb 2)) (ze (zf zB (zb 1) (Ar 1)) zg)))))
     (zF (mC (.bl false)))
     zN))) ks (λ_ e s'=>(∃x,e=[sR q,sI d,x])/\Old (st.set q (.fdi ks xs)) s') (λi k e s' hk ⟨⟨x,he⟩,h2⟩=>by
    have hm:=jy hk
    subst he
    obtain ⟨n',rfl⟩:∃j,n=j+1:=⟨n-1,by omega⟩
    obtain ⟨s2,e2,o2⟩:=DT n' 0 (by omega) (hw k hm) s'
    obtain ⟨u,lu⟩:=CL (us:=ts) hl hm
    obtain ⟨y,ly,ty⟩:=tG tr lu
    have um:=CM lu
    have:=j9 um
    have:=fE um
    have OC:=o2 _ _ (h2 _ _ p9)
    have i3:gT (.ref q) (.str k) s2=.ok y s2:=by simp [gT,OC,ly]
    obtain ⟨s3,e3,o3⟩:=ih u y (d+1) (q::S) s2 (g' u um) (by omega) (by omega) (by omega) ((DQ F).old (h2.trans o2)) (DP big nF (by simp only [dp];omega)) ty
    exact ⟨_,_,s3,rfl,zm (zG (jw (ja (b:=true) (zn (zv (zO (zc rfl) rfl) rfl))) (ja (b:=true) (zn (zv (zO (zc rfl) rfl) e2))))) (zG (ja (b:=true) (zn (zv (zO (zk (zc rfl) (zc rfl) i3) (zk (zc rfl) rfl (jl _ _))) e3)))),⟨_,rfl⟩,(h2.trans o2).trans o3⟩) ks.length 0 [sR q,sI d,none] (st.set q (.fdi ks xs)) (by omega) ⟨⟨_,rfl⟩,Old.refl _⟩
   rw [List.drop_zero] at R
   subst OB
   exact ⟨_,zK (m:=2) (n:=3) (xs:=[.ref q,.int (d:Int)]) (g:=mZ (wA n)) rfl (zm (zG (jw (y6 rfl (e _) Mt) D)) (zm (zG (y6 rfl (e _) Mp)) (zm (zG (y6 rfl (e _) Mn)) (zm (zG (y6 rfl (e _) CG)) (zm (zG (ja (b:=true) (y6 rfl (e _) CH))) (zm (Ot (zc rfl) gq R o1) (zJ rfl))))))),DO gq o1⟩
theorem uH:∀ts:List Tr,(ts.map λt=>(sz t:Int)).sum=(aM ts:Int)
 |[]=>rfl
 |t::ts=>by simp only [yi,List.sum_cons,uH ts,aM];omega
theorem DU {fe:Ai}{env:za}(xs:An) (I:Nat->List PV->aj->Prop) (step:∀i x ys st,xs[i]?=some x->I i ys st->∃y au,fe (some x::env) st=.ok y au/\I (i+1) (ys++[y]) au) :
  ∀(k i:Nat) (ys:An) (st:aj),i+k=xs.length->I i ys st->∃a8 aR,dB fe env (xs.drop i) ys st=.ok a8 aR/\I xs.length a8 aR
 |0,i,ys,st,hk,h=>⟨ys,st,by rw [kJ (by omega)];rfl,by rw [<-hk];exact h⟩
 |k+1,i,ys,st,hk,h=>by
  have hx:xs[i]?=some (xs[i]'(by omega)):=yc (by omega)
  obtain ⟨y,au,e,h1⟩:=step i _ ys st hx h
  obtain ⟨a8,aR,r,h2⟩:=DU xs I step k (i+1) (ys++[y]) au (by omega) h1
  refine ⟨a8,aR,?_,h2⟩
  rw [fJ (by omega)]
  unfold dB
  rw [e]
  simp only [iL,zA]
  exact r
def OD {a:aj}:∀(n:Nat) (t:Tr) (v:PV) (S:List Nat) (st:aj),dp t<n->sz t<=60->Fz S a st->(∀m∈S,∃u',TR a u' (.ref m)/\dp t<dp u')->TR a t v->∃s1,fD n [v] st=.ok (.int (sz t:Int)) s1/\Old st s1:=by
 intro n
 induction n with
 |zero=>intro t v S st h;omega
 |succ n ih =>
  intro t v S st hn hz F big tv
  cases t with
  |num i =>
   obtain rfl:v=.int i:=tv
   have e:∀n,yv [.int i,.ty n] st=cy (bG "int" n) st:=λ_=>rfl
   exact ⟨st,zK (m:=1) (n:=1) (xs:=[.int i]) (g:=m3 (fD n)) rfl (zm (zG (y6 rfl (e _) t2)) (zm (zG (y6 rfl (e _) t3)) (zJ rfl))),Old.refl _⟩
  |word z =>
   obtain ⟨rfl,_⟩:=tv
   have e:∀n,yv [.str z,.ty n] st=cy (bG "str" n) st:=λ_=>rfl
   exact ⟨st,zK (m:=1) (n:=1) (xs:=[.str z]) (g:=m3 (fD n)) rfl (zm (zG (y6 rfl (e _) t6)) (zm (zG (y6 rfl (e _) t7)) (zJ rfl))),Old.refl _⟩
  |row ts =>
   obtain ⟨xs,rfl,tr⟩:=tv
   have e:∀n,yv [.tup xs,.ty n] st=cy (bG "tuple" n) st:=λ_=>rfl
   simp only [dp] at hn big
   simp only [sz] at hz
   have hl:=tr.len
   have mw:=iW ts
   obtain ⟨ys,s1,C,hy,o1⟩:=iX (fe:=(zo (fD n) (ze (zb 0) zg))) (env:=[some (.tup xs)]) xs (λi ys s'=>ys=((ts.take i).map λt=>(sz t:Int)).map PV.int/\Old st s') (λi x ys s' hx ⟨h1,h2⟩=>by
    obtain ⟨u,hu,tu⟩:=tr.get hx
    have hm:=jy hu
    have:=j9 hm
    have:=fE hm
    obtain ⟨s2,e2,o2⟩:=ih u x S s' (by omega) (by omega) (F.old h2) (λm uF=>by obtain ⟨u',q1,q2⟩:=big m uF;exact ⟨u',q1,by omega⟩) tu
    refine ⟨_,s2,zv (zD (zc rfl)) e2,?_,h2.trans o2⟩
    rw [h1,pO hu];simp) xs.length 0 [] st (by omega) ⟨rfl,Old.refl _⟩
   rw [List.take_of_length_le (by omega)] at hy
   have A:=DN (st:=s1++[.lst ys]) (r:=s1.length) (is:=ts.map λt=>(sz t:Int)) (by rw [<-hy];exact yo _ _)
   rw [uH] at A
   refine ⟨s1++[.lst ys],zK (m:=1) (n:=1) (xs:=[.tup xs]) (g:=m3 (fD n)) rfl (yq (z7 (y6 rfl (e _) CF) (zJ (zk rfl (zv (zD ?_) A) ((jl _ _).trans (by simp only [sz];rfl)))))),o1.trans (yp _ _)⟩
   rw [gQ,k_,zc rfl,zA]
   show cU _ _ (.im xs) st=_
   rw [lg,zj (by simp [lim];omega)]
   exact C
  |rec_ ks ts =>
   have nF:=tv
   obtain ⟨q,xs,rfl,uG,nd,ll,tr,_⟩:=tv
   have nq:=DR big nF
   have gq:st[q]?=some (.dic ks xs):=F q _ nq uG
   have e:=DM gq
   have p9:(st.set q (.fdi ks xs))[q]?=some (.fdi ks xs):=jr (yr gq)
   have cE:=hn
   simp only [dp] at cE
   simp only [sz] at hz
   have hl:=tr.len
   obtain ⟨ys,s1,C,hy,o1⟩:=DU (fe:=(zo (fD n) (ze (zb 0) zg))) (env:=[sR q]) xs (λi ys s'=>ys=((ts.take i).map λt=>(sz t:Int)).map PV.int/\Old (st.set q (.fdi ks xs)) s') (λi x ys s' hx ⟨h1,h2⟩=>by
    obtain ⟨u,hu,tu⟩:=tr.get hx
    have hm:=jy hu
    have:=j9 hm
    have:=fE hm
    obtain ⟨s2,e2,o2⟩:=ih u x (q::S) s' (by omega) (by omega) ((DQ F).old h2) (DP big nF (by simp only [dp];omega)) tu
    refine ⟨_,s2,zv (zD (zc rfl)) e2,?_,h2.trans o2⟩
    rw [h1,pO hu];simp) xs.length 0 [] (st.set q (.fdi ks xs)) (by omega) ⟨rfl,Old.refl _⟩
   rw [List.take_of_length_le (by omega)] at hy
   rw [List.drop_zero] at C
   have hf:(s1++[SO.lst ys])[q]?=some (.fdi ks xs):=yp _ _ _ _ (o1 _ _ p9)
   have ql:q<s1.length:=yr (o1 _ _ p9)
   have A:=DN (st:=(s1++[SO.lst ys]).set q (.dic ks xs)) (r:=s1.length) (is:=ts.map λt=>(sz t:Int)) (by rw [yI (by omega),<-hy];exact yo _ _)
   rw [uH] at A
   exact ⟨_,zK (m:=1) (n:=1) (xs:=[.ref q]) (g:=m3 (fD n)) rfl (zm (zG (y6 rfl (e _) CG)) (yq (z7 (y6 rfl (e _) CH) (zJ (zk rfl (zv (zD (Ou (zc rfl) gq C o1)) A) ((jl _ _).trans (by simp only [sz];rfl))))))),DO gq (o1.trans (yp _ _))⟩
def DV (st:aj):pJ [.exo "NoText" [] []] st=.ok (.bl true) st:=by
 have f1:jN isT [.exo "NoText" [] [],.fn "Twice"] st=.ok (.bl false) st:=rfl
 have f2:jN isT [.exo "NoText" [] [],.fn "Unbound"] st=.ok (.bl false) st:=rfl
 have f3:jN isT [.exo "NoText" [] [],.fn "NoFunction"] st=.ok (.bl false) st:=rfl
 have f4:jN isT [.exo "NoText" [] [],.fn "WrongCount"] st=.ok (.bl false) st:=rfl
 have f5:jN isT [.exo "NoText" [] [],.fn "ForeError"] st=.ok (.bl true) st:=rfl
 have f6:jN isT [.exo "NoText" [] [],.ty "ValueError"] st=.ok (.bl true) st:=rfl
 have f7:jN isT [.exo "NoText" [] [],.fn "NoText"] st=.ok (.bl true) st:=rfl
 exact zK rfl (zm (zG (jw (zn (zv (zO (zc rfl) rfl) f1)) (zn (zv (zO (zc rfl) rfl) f2)))) (zm (zG (jw (zn (zv (zO (zc rfl) rfl) f3)) (zn (zv (zO (zc rfl) rfl) f4)))) (zJ (pd (zv (zO (zc rfl) rfl) f5) (pd (zv (zO (zc rfl) rfl) f6) (zv (zO (zc rfl) rfl) f7))))))
def DW:zbc "NoText" = true:=by simp [zbc]
def DX {L:List Nat}(hL:L.length<=100000) (hb:Bad L) (st:aj):∃s1,mY [.str (S L)] st=.ok (.bl true) s1/\Old st s1:=by
 rcases DL L hL st with ⟨s1,e1,o1⟩|⟨v,s1,t,e1,ct,hz,et,_⟩
 ·exact ⟨s1,zK rfl (yq (Ov (uE (zD (zc rfl)) e1) DW (zJ (zv (zD (zc rfl)) (DV s1))))),o1⟩
 ·exact absurd (by rw [ct.c];exact et) (hb t ct.g hz)
def DY (L:List Nat) (hL:L.length<=100000) (st:aj):∃s1,lD [.str (S L)] st=.ok (.bl true) s1/\Old st s1:=by
 rcases DL L hL st with ⟨s1,e1,o1⟩|⟨v,s1,t,e1,ct,hz,et,tv,o1⟩
 ·exact ⟨s1,zK rfl (zm (zV rfl) (yq (Ow (uE (zD (zc rfl)) e1) DW (zJ (zv (zD (zc rfl)) (DV s1)))))),o1⟩
 ·have d1:=CD t
  obtain ⟨s2,e2,o2⟩:=OA (a:=s1) 62 t v 0 [] s1 ct.g (by omega) (by omega) hz (λ_ _ _ e=>e) (λ_ h=>nomatch h) tv
  obtain ⟨s3,e3,o3⟩:=OD (a:=s2) 62 t v [] s2 (by omega) hz (λ_ _ _ e=>e) (λ_ h=>nomatch h) (tv.old o2)
  obtain ⟨s4,e4,o4⟩:=tP 61 t (by omega) hz ct.g s3 v ((tv.old o2).old o3)
  rw [ct.c,et] at e4
  exact ⟨s4,zK rfl (zm (zV rfl) (zm (Ox (uE (zD (zc rfl)) e1)) (zm (zG (jw (ja (b:=true) (zn (zv (zO (zc rfl) rfl) e2))) (zn (zk (zv (zD (zc rfl)) e3) rfl (dq false (by rw [decide_eq_false_iff_not];omega) _))))) (zJ (zk (zv (zD (zc rfl)) e4) (zc rfl) (eqs _ _ true (by simp) _)))))),((o1.trans o2).trans o3).trans o4⟩
def lR {c:Nat}(h1:c≠44) (h2:c≠93) (h3:c≠125) (σ:List Fr):cZ c σ=none:=by
 cases σ with
 |nil=>rfl
 |cons f σ=>cases f<;>simp [cZ,h1,h2,h3]
def p_ {c:Nat}(h:bt c=true) (σ:List Fr):cZ c σ=none:=by
 have hb:48<=c/\c<=57:=by simpa [bt] using h
 exact lR (by omega) (by omega) (by omega) σ
def cK (b:List Nat):Prop:=∀e σ,rn (.val e) σ b=none
def cK.nope {b:List Nat}(h:cK b):dS b:=.inl (NQ h)
def OE (q:Qs) (σ:List Fr):aV 57 q σ=none\/∃n,aV 57 q σ=some (.dig n,σ):=by
 cases q with
 |val e=>exact .inr ⟨1,by simp [aV,bt]⟩
 |key e w =>
  left
  cases σ with
  |nil=>simp [aV,bY]
  |cons f σ=>cases f<;>simp [aV,bY]
 |neg=>exact .inr ⟨1,by simp [aV,bt]⟩
 |zero=>exact .inl (p_ rfl σ)
 |dig n =>
  by_cases h:n<18
  ·exact .inr ⟨n+1,by simp [aV,bt,h]⟩
  ·exact .inl (by simp [aV,bt,h])
 |wrd n =>
  left
  by_cases h:n=0
  ·simp [aV,bY,h]
  ·simp only [aV];rw [zx (by decide),zx h];exact p_ rfl σ
 |done=>exact .inl (p_ rfl σ)
def OG (q:Qs) (σ:List Fr):aV 81 q σ=none:=by
 cases q with
 |val e=>simp [aV,bt]
 |key e w =>
  cases σ with
  |nil=>simp [aV,bY]
  |cons f σ=>cases f<;>simp [aV,bY]
 |neg=>simp [aV,bt]
 |zero=>exact lR (by decide) (by decide) (by decide) σ
 |dig n=>simp only [aV];rw [zx (by decide)];exact lR (by decide) (by decide) (by decide) σ
 |wrd n =>
  by_cases h:n=0
  ·simp [aV,bY,h]
  ·simp only [aV];rw [zx (by decide),zx h];exact lR (by decide) (by decide) (by decide) σ
 |done=>exact lR (by decide) (by decide) (by decide) σ
def OH (x y:List Nat):cK (x++57::58::y):=λe σ=>by
 rw [kg]
 cases rn (.val e) σ x with
 |none=>rfl
 |some m =>
  obtain ⟨q,σ'⟩:=m
  show rn q σ' (57::58::y)=none
  rcases OE q σ' with h|⟨n,h⟩
  ·exact wR h
  ·rw [ya h]
   exact wR (by simp only [aV];rw [zx (by decide)];exact lR (by decide) (by decide) (by decide) σ')
def OI (x y:List Nat):cK (x++81::y):=λe σ=>by
 rw [kg]
 cases rn (.val e) σ x with
 |none=>rfl
 |some m =>
  obtain ⟨q,σ'⟩:=m
  exact wR (OG q σ')
def DZ {c:Nat}(h:bt c=true) (r:List Nat):cK (48::c::r):=λe σ=>by
 rw [ya (q':=.zero) (σ':=σ) (by simp [aV])]
 exact wR (p_ h σ)
def D0 (r:List Nat):cK (45::48::r):=λe σ=>by
 rw [ya (q':=.neg) (σ':=σ) (by simp [aV])]
 exact wR (by simp [aV])
theorem D1 {σ:List Fr}:∀(l:List Nat) (n:Nat),(∀c∈l,bt c=true)->n<=18->18<n+l.length->rn (.dig n) σ l=none
 |[],n,_,h1,h2=>by simp at h2;omega
 |c::l,n,h,h1,h2=>by
  have hc:=h c (zY ..)
  by_cases hn:n<18
  ·rw [ya (q':=.dig (n+1)) (σ':=σ) (by simp only [aV];rw [zj hc,zj hn])]
   exact D1 l (n+1) (λd hd=>h d (yd _ hd)) (by omega) (by simp at h2;omega)
  ·exact wR (by simp only [aV];rw [zj hc,zx hn])
def D2 {c:Nat}{r:List Nat}(hc:c≠48) (h:∀x∈c::r,bt x=true) (hl:18<(c::r).length):cK (c::r)/\cK (45::c::r):=by
 have hD:=h c (zY ..)
 have hb:48<=c/\c<=57:=by simpa [bt] using hD
 have hr:∀σ,rn (.dig 1) σ r=none:=fun σ=>D1 r 1 (λd hd=>h d (yd _ hd)) (by decide) (by simp at hl;omega)
 refine ⟨λe σ=>?_,λe σ=>?_⟩
 ·rw [ya (q':=.dig 1) (σ':=σ) (by simp only [aV];rw [zx (by omega),zx (by omega),zx (by omega),zx (by omega),zx (by omega),zx hc,zj hD])]
  exact hr σ
 ·rw [ya (q':=.neg) (σ':=σ) (by simp [aV]),ya (q':=.dig 1) (σ':=σ) (by simp only [aV];rw [zj hD,zx hc])]
  exact hr σ
def OJ:∀(k m:Nat),10 ^ k<=m->k<(dg m).length:=by
 intro k
 induction k with
 |zero=>intro m h;exact i6 m
 |succ k ih =>
  intro m h
  rw [Nat.pow_succ] at h
  have Pw:1<=10 ^ k:=Nat.one_le_pow _ _ (by decide)
  have:=ih (m/10) (by omega)
  unfold dg at this ⊢
  rw [lF (by omega),y8,jc,yX]
  simp at this ⊢;omega
def OK {m:Nat}(h:10 ^ 18<=m):cK (dg m)/\cK (45::dg m):=by
 obtain ⟨c,r,e,hc⟩:=pN (m:=m) (by omega)
 have hl:=OJ 18 m h
 have hD:∀x∈dg m,bt x=true:=λx hx=>kh hx
 rw [e] at hl hD ⊢
 exact D2 hc hD hl
def OL {m:Nat}(h:m<10 ^ 18):Goes (dg m):=by
 have g:gd (.num (m:Int)):=by
  show -1000000000000000000<(m:Int)/\(m:Int)<1000000000000000000
  omega
 have:=lM g
 have e:tx (cn (.num (m:Int)))=dg m:=by
  show sgn (m:Int)=_
  unfold sgn
  rw [zx (by omega),Int.natAbs_natCast]
 rw [e] at this
 exact this
def D4 {a b:Str}{m:Nat}{y:List Nat}(ha:a9 a=true) (hb:a9 b=true) (hm:m<10 ^ 18) (h:¬yw a b):cK (123::(a.cps.toList++58::(dg m++44::(b.cps.toList++58::y)))):=λe σ=>by
 obtain ⟨c,r,ec⟩:=nC ha
 obtain ⟨c',r',OM⟩:=nC hb
 obtain ⟨q,h1,h2⟩:=OL hm false (.re a.cps.toList::σ)
 rw [ya (q':=.key true []) (σ':=.re []::σ) (by simp [aV]),wB (pW a.cps.toList true [] (nB ha) (by rw [ec];simp)),List.nil_append,
  ya (q':=.val false) (σ':=.re a.cps.toList::σ) (by simp [aV,bY,Dv ha]),wB h1,ya ((h2.st 44 rfl rfl _).trans (show _=some (.key false [],.re a.cps.toList::σ) by simp [cZ])),
  wB (pW b.cps.toList false [] (nB hb) (by rw [OM];simp)),List.nil_append]
 exact wR (by simp [aV,bY,show ¬a.cps.toList<b.cps.toList from h])
def hands:List (Ad):=[["", "-", "--1", "+1", "-0", "00", "007", "-01", "0x1", "1.5", "1.0", "1e3", "1_0", "1 ", " 1", "1 2", "1,"],
 [",", ":", "a:1", "a", "abc", "'", "''", "'a'", "'A", "'aB", "'a1", "'a b", "' a", "\"a\""],
 ["[", "]", "[1", "1]", "[1,]", "[,1]", "[,]", "[1,,2]", "[1, 2]", "[1 ,2]", "[ ]", "[1;2]", "(1)"],
 ["()", "[[]", "[]]", "[[1],[2]", "[}", "{]", "{", "}", "{a}", "{a:}", "{:1}", "{:}"],
 ["{a:1", "{a:1,}", "{,a:1}", "{a:1 }", "{ a:1}", "{a: 1}", "{a::1}", "{a=1}", "{a:1;b:2}", "{'a:1}"],
 ["{A:1}", "{a1:1}", "{{}}"],
 ["True", "None", "[1]2", "{}{}", "[][]", "'a,", "0-", "1-2", "-a", "[-]", "\n1", "1\n", "[1,\n2]"]]
def OO:(hands.all λl=>l.all λz=>ff z.cps.toList&&decide (z.length<=20))=true:=by decide +kernel
section
variable {e:za} {st s1 s2:aj} {fa fb:Ai}
def kj {s:aj}{r b:Nat}{xs:An}{x:PV}(h:s[r]?=some (.lst xs)) (hx:xs[b]?=some x):z9 (.ref r) (.int (b:Int)) s=.ok x s:=by
 rw [o5,yH h,bO hx];rfl
def yh {x y:Str}{a b:List Nat}(hx:x=S a) (hy:y=S b) (hl:a.length+b.length<=100000) (h:fa e st=.ok (.str x) s1) (h':fb e s1=.ok (.str y) s2):zf zB fa fb e st=.ok (.str (S (a++b))) s2 :=
 zk h h' (by
  subst hx hy
  show (if (S a).length+(S b).length<=lim then _ else _)=_
  rw [zj (by rw [yR,yR];simp [lim];omega),wO])
def ko {n:Nat}(h:n<2*10 ^ 18) (st:aj):jW [.int (n:Int)] st=.ok (.str (S (dg n))) st:=by
 have es:sgn (n:Int)=dg n:=by
  unfold sgn
  rw [zx (by omega),Int.natAbs_natCast]
 rw [AO,zj,CW,es]
 rw [Int.natAbs_natCast]
 by_cases h0:n=0
 ·rw [h0];decide
 ·exact (Nat.log2_lt h0 (k:=1920)).mpr (yY (show n<2 ^ 62 by omega) (Nat.pow_le_pow_right (by decide) (by decide)))
def uI {n:Nat}(h:n<10 ^ 19):(dg n).length<=19:=by
 unfold dg
 rw [yX]
 exact tL 18 n h
theorem D5 (c:Nat):∀(k:Nat) (a:Array Nat),((List.replicate k #[c]).foldl (·++·) a).toList=a.toList++List.replicate k c
 |0,a=>by simp
 |k+1,a=>by
  rw [List.replicate_succ,List.foldl_cons,D5 c k,Array.toList_append,List.replicate_succ]
  simp
def OQ (c k:Nat) (hk:2<=k):bF (S [c]) (k:Int)=S (List.replicate k c):=by
 have hl:(S [c]).length=1:=yR [c]
 unfold bF
 rw [zx (by omega),zx (by rw [hl];simp;omega)]
 have:=D5 c k #[]
 rw [Int.toNat_natCast]
 show Str.mk _=Str.mk _
 congr 1
 apply Array.toList_inj.mp
 show ((List.replicate k #[c]).foldl (·++·) #[]).toList=_
 rw [this];simp
def uJ {z:Str}{c k:Nat}(hz:z=S [c]) (hk:2<=k) (AD:k<=10000) (h:fa e st=.ok (.str z) s1) (h':fb e s1=.ok (.int (k:Int)) s2):zf fY fa fb e st=.ok (.str (S (List.replicate k c))) s2 :=
 zk h h' (by
  subst hz
  show (if 0<=(k:Int)/\(k:Int)<=10000/\(S [c]).length<=100 then _ else _)=_
  rw [zj ⟨by omega,by omega,by rw [yR];simp⟩,OQ c k hk])
def g_ {w k:Int}{g g':Aj}{X:Res Fl}(h1:e[1]?=some (some (.int w))) (h:w≠k) (hx:g' e st=X):zt (zM (mB (zf yf (zb 1) (Ar k))) g zN) g' e st=X :=
 zm (zG (zn (zk (zc h1) rfl (a6 false (by simpa using h) _)))) hx
def tk {w k:Int}{g g':Aj}{v:PV}(h1:e[1]?=some (some (.int w))) (h:w=k) (hx:g e st=.ok (.rt v) s1):zt (zM (mB (zf yf (zb 1) (Ar k))) g zN) g' e st=.ok (.rt v) s1 :=
 yq (z7 (zn (zk (zc h1) rfl (a6 true (by simpa using h) _))) hx)
end
def OR {d:Nat}{st:aj}(hd:Dc d st):∃(r:Nat) (a b:Str) (s1:aj),sX [.ref d] st=.ok (.ref r) s1/\s1[r]?=some (.lst [.str a,.str b])/\a9 a=true/\a9 b=true/\¬yw a b/\Nx d st s1:=by
 obtain ⟨x,s1,e1,hx,n1⟩:=ni hd
 obtain ⟨y,s2,e2,hy,n2⟩:=ni n1.dc
 have A:∀{X:Res Fl},BV [sR d,some (.str x),some (.str y)] s2=X->BW [sR d,none,none] st=X:=λh=>zm (zV (zv (zD (zc rfl)) e1)) (zm (zV (zv (zD (zc rfl)) e2)) h)
 by_cases hxy:x=y
 ·refine ⟨s2.length,x,x,s2++[.lst [.str x,.str x]],zK rfl (A (yq (z7 (zn (zk (zc rfl) (zc rfl) (eqs _ _ true (by simpa using hxy) _))) (zJ (wv (zO (zc rfl) (zc rfl)) (by simp)))))),yo _ _,hx,hx,λh=>lQ h rfl,(n1.trans n2).trans (Nx.of n2.dc (yp _ _))⟩
 ·have pm:=yu [x,y]
  have pw:(aL [x,y]).Pairwise (λa b=>cf a b=true):=List.pairwise_mergeSort lB mV _
  have hl:(aL [x,y]).length=2:=pm.length_eq
  obtain ⟨a,b,es⟩:∃a b,aL [x,y]=[a,b]:=by
   match aL [x,y],hl with
   |[a,b],_=>exact ⟨a,b,rfl⟩
  have hw:∀z∈aL [x,y],a9 z=true:=λz hz=>by
   have:=pm.mem_iff.mp hz
   simp at this
   rcases this with q|q<;>rw [q]<;>assumption
  rw [es] at hw pw
  have le:cf a b=true:=by simpa using pw
  have L0:(s2++[SO.lst [.str x,.str y]])[s2.length]?=some (.lst [.str x,.str y]):=yo _ _
  have O:sP (.ref s2.length) (s2++[SO.lst [.str x,.str y]])=.ok (.ref (s2++[SO.lst [.str x,.str y]]).length) ((s2++[SO.lst [.str x,.str y]])++[.lst [.str b,.str a]]):=by
   show ym _ _ _=_
   rw [yH L0]
   show (if ([x,y]:Ad).length<64 then _ else _)=_
   rw [zj (by simp),es]
   rfl
  refine ⟨_,b,a,_,zK rfl (A (zm (zG (zn (zk (zc rfl) (zc rfl) (eqs _ _ false (by simpa using hxy) _)))) (zJ (yL (wv (zO (zc rfl) (zc rfl)) (by simp)) O)))),yo _ _,hw b (by simp),hw a (by simp),λh=>?_,(n1.trans n2).trans (Nx.of n2.dc ((yp _ _).trans (yp _ _)))⟩
  have le:a.cps.toList<=b.cps.toList:=of_decide_eq_true le
  exact absurd h (List.not_lt.mpr le)
def kq {z:Str}(hz:z.length<=100000) (lo hi:Option Int) (st:aj):∃y:Str,k7 (.str z) lo hi st=.ok (.str y) st/\y.length<=z.length:=by
 refine ⟨Txt.slice z lo hi,?_,Txt.slice_le z lo hi⟩
 show (if z.length<=lim then _ else _)=_
 rw [zj (by simp [lim];omega)]
def gh {x y:Str}(h:x.length+y.length<=100000) (st:aj):zB (.str x) (.str y) st=.ok (.str (x++y)) st:=by
 show (if x.length+y.length<=lim then _ else _)=_
 rw [zj (by simp [lim];omega)]
def D6 {L:List Nat}{z:Str}(hz:z=S L) {r:Nat}(hr:r<L.length) (hl:L.length<=100000) (st:aj):∃c,z9 (.str z) (.int (r:Int)) st=.ok (.str ⟨#[c]⟩) st:=by
 subst hz
 exact ⟨L[r]'hr,cB hl (yc hr)⟩
def OS {d:Nat}{st:aj}(hd:Dc d st):∃(z:Str) (s1:aj),sY [.ref d] st=.ok (.str z) s1/\z.length<=30/\Nx d st s1:=by
 obtain ⟨x,s1,e1,hx,n1⟩:=ni hd
 have lx:=jb hx
 obtain ⟨r,s2,e2,hr,n2⟩:=yS n1.dc (x.length+1) (by omega)
 obtain ⟨j,s3,e3,hj,n3⟩:=yS n2.dc 17 (by decide)
 obtain ⟨k,s4,e4,hk,n4⟩:=yS n3.dc 2 (by decide)
 obtain ⟨c,ec⟩:=D6 (L:=[65,90,48,49,57,95,32,45,46,39,91,93,123,125,44,58,126]) (z := "AZ019_ -.'[]{},:~") (by decide +kernel) (r:=j) hj (by decide) s3
 have N:=((n1.trans n2).trans n3).trans n4
 have A:∀{X:Res Fl},BX [sR d,some (.str x),sI r,some (.str ⟨#[c]⟩)] s3=X->BZ [sR d,none,none,none] st=X:=λh=>zm (zV (zv (zD (zc rfl)) e1)) (zm (zV (zv (zO (zc rfl) (zk (zv (zD (zc rfl)) (p7 (by omega) _)) rfl (jl _ _))) e2)) (zm (zV (zk rfl (zv (zO (zc rfl) rfl) e3) ec)) h))
 by_cases nv:k=1
 ·have l9:("abcdefghi" : Str).length=9:=by decide +kernel
  obtain ⟨y,ey,ly⟩:=kq (z:=x ++ "abcdefghi") (by rw [Str.length_append,l9];omega) none (some 9) s4
  rw [Str.length_append,l9] at ly
  exact ⟨y,s4,zK rfl (A (yq (z7 (zn (zk (zv (zO (zc rfl) rfl) e4) rfl (a6 true (by rw [nv];rfl) _))) (zJ (ww (zk (zc rfl) rfl (gh (by rw [l9];omega) _)) fC (jY rfl) ey))))),by omega,N⟩
 ·obtain ⟨k2,s5,e5,AD,n5⟩:=yS n4.dc 2 (by decide)
  obtain ⟨y,ey,ly⟩:=kq (z:=x) (by omega) none (some (r:Int)) s4
  obtain ⟨u,eu,lu⟩:=kq (z:=x) (by omega) (some ((r:Int)+(k2:Int))) none s5
  have lc:(⟨#[c]⟩:Str).length=1:=rfl
  refine ⟨y++⟨#[c]⟩++u,s5,zK rfl (A (zm (zG (zn (zk (zv (zO (zc rfl) rfl) e4) rfl (a6 false (by simp;omega) _)))) (zJ (zk (zk (ww (zc rfl) fC (jY (zc rfl)) ey) (zc rfl) (gh (by rw [lc];omega) _)) (ww (zc rfl) (jY (zk (zc rfl) (zv (zO (zc rfl) rfl) e5) (jl _ _))) fC eu) (gh (by rw [Str.length_append,lc];omega) _))))),by rw [Str.length_append,Str.length_append,lc];omega,N.trans n5⟩
def Out (d:Nat) (st:aj) (r:Res PV):Prop:=∃L s1,r=.ok (.str (S L)) s1/\dS L/\L.length<=6000/\Nx d st s1
theorem D7:∀ls:List (List Nat),ls.length<=(jt ls).count 44
 |[]=>by simp
 |l::ls=>by
  have:=D7 ls
  simp only [jt,yA,List.count_cons_self,List.count_append];omega
def OT (ls:List (List Nat)):ls.length<=(jn ls).count 44+1:=by
 cases ls with
 |nil=>simp
 |cons l ls =>
  have:=D7 ls
  simp only [jn,yA,List.count_append];omega
def qj (i j:Nat) (hj:j<=1000) (st:aj):fY (.int (i:Int)) (.int (j:Int)) st=.ok (.int ((i*j:Nat):Int)) st:=by
 have c:cx (i:Int) (j:Int)=true:=by simp [cx];omega
 show (if cx (i:Int) (j:Int)=true then Res.ok (PV.int ((i:Int)*(j:Int))) st else .stuck)=_
 rw [zj c,Int.natCast_mul]
def d_ (i j:Nat) (hj:0<j) (st:aj):yK (.int (i:Int)) (.int (j:Int)) st=.ok (.int ((i%j:Nat):Int)) st:=by
 rw [Kr _ j hj]
 congr 2
def nG (i j:Nat) (hj:0<j) (OU:j<2 ^ 200) (st:aj):wZ (.int (i:Int)) (.int (j:Int)) st=.ok (.int ((i/j:Nat):Int)) st:=by
 rw [sf _ _ (by omega) (by rw [Int.natAbs_natCast];exact OU),Mj _ _ (by omega)]
 congr 2
def OV {d:Nat}{st:aj}(hd:Dc d st):Out d st (iT [.ref d] st):=by
 obtain ⟨w,s1,e1,hw,n1⟩:=yS hd 9 (by decide)
 obtain ⟨n,s2,e2,hn,n2⟩:=yS n1.dc 1000000000 (by decide)
 have N:=n1.trans n2
 have ln:=uI (n:=n) (by omega)
 have A:∀{X:Res Fl},B_ [sR d,sI w,sI n,none,none,none] s2=X->wx [sR d,none,none,none,none,none] st=X:=λh=>zm (zV (zv (zO (zc rfl) rfl) e1)) (zm (zV (zv (zO (zc rfl) (zk rfl rfl (pP _))) e2)) h)
 obtain ⟨c0,r0,ed,_⟩:∃c r,dg n=c::r/\bt c=true:=by
  cases q:dg n with
  |nil=>have:=i6 n;rw [q] at this;simp at this
  |cons c r=>exact ⟨c,r,rfl,kh (m:=n) (by rw [q];exact zY ..)⟩
 have D8:bt c0=true:=kh (m:=n) (by rw [ed];exact zY ..)
 by_cases w0:w=0
 ·by_cases n3:n%3=0
  ·refine ⟨[45,48],s2,zK rfl (A (yq (z7 (fB (zn (zk (zc rfl) rfl (a6 true (by simp [w0]) _))) (zn (zk (zk (zc rfl) rfl (d_ n 3 (by decide) _)) rfl (a6 true (by rw [n3];rfl) _)))) (zJ ?_)))),(D0 []).nope,by decide,N⟩
   show Res.ok (PV.str "-0") s2=_
   rw [show ("-0" : Str)=S [45,48] by decide +kernel]
  ·have L0:(s2++[SO.lst ((["0", "-0", "00"]:Ad).map PV.str)])[s2.length]?=some (.lst ((["0", "-0", "00"]:Ad).map PV.str)):=yo _ _
   have B:∀{X:Res Fl},B9 [sR d,sI w,sI n,none,none,none] s2=X->wx [sR d,none,none,none,none,none] st=X:=λh=>A (zm (zG (fB (zn (zk (zc rfl) rfl (a6 true (by simp [w0]) _))) (zn (zk (zk (zc rfl) rfl (d_ n 3 (by decide) _)) rfl (a6 false (by simp;omega) _))))) h)
   have fin:∀(j:Nat) (z:Str) (a:List Nat),n/3%3=j->(["0", "-0", "00"]:Ad)[j]?=some z->z=S a->a.length<=2->cK (a++dg n)->Out d st (iT [.ref d] st):=λj z a ej ez ea la hh =>
    ⟨a++dg n,_,zK rfl (B (tk rfl (by simp [w0]) (zJ (yh ea rfl (by omega) (zk (wv (rR _) (by simp)) (zk (zk (zc rfl) rfl (nG n 3 (by decide) (by decide) _)) rfl (d_ (n/3) 3 (by decide) _)) (kj L0 (by rw [ej,y7,ez];rfl))) (zv (zD (zc rfl)) (ko (by omega) _)))))),hh.nope,by simp;omega,N.trans (Nx.of N.dc (yp _ _))⟩
   rcases (show n/3%3=0\/n/3%3=1\/n/3%3=2 by omega) with q|q|q
   ·exact fin 0 "0" [48] q rfl (by decide +kernel) (by decide) (by rw [ed];exact DZ D8 r0)
   ·exact fin 1 "-0" [45,48] q rfl (by decide +kernel) (by decide) (D0 _)
   ·exact fin 2 "00" [48,48] q rfl (by decide +kernel) (by decide) (DZ rfl _)
 have A:∀{X:Res Fl},B8 [sR d,sI w,sI n,none,none,none] s2=X->wx [sR d,none,none,none,none,none] st=X:=λh=>A (zm (zG (lr (zn (zk (zc rfl) rfl (a6 false (by simp;omega) _))))) (g_ rfl (by omega) h))
 by_cases w1:w=1
 ·have L0:(s2++[SO.lst [.str "", .str "-"]])[s2.length]?=some (.lst [.str "", .str "-"]):=yo _ _
  have hb:n*(n/2%2)<=1000000000:=by
   rcases (show n/2%2=0\/n/2%2=1 by omega) with q|q<;>rw [q]<;>omega
  have hh:=OK (m:=1000000000000000000+n*(n/2%2)) (by omega)
  have lm:=uI (n:=1000000000000000000+n*(n/2%2)) (by omega)
  have fin:∀(j:Nat) (z:Str) (a:List Nat),n%2=j->([.str "", .str "-"]:An)[j]?=some (.str z)->z=S a->a.length<=2->cK (a++dg (1000000000000000000+n*(n/2%2)))->Out d st (iT [.ref d] st):=λj z a ej ez ea la hh =>
   ⟨_,_,zK rfl (A (tk rfl (by simp [w1]) (zJ (yh ea rfl (by omega) (zk (wv (zO rfl rfl) (by simp)) (zk (zc rfl) rfl (d_ n 2 (by decide) _)) (kj L0 (by rw [ej];exact ez))) (zv (zD (zk (zk rfl rfl (ng _)) (zk (zc rfl) (zk (zk (zc rfl) rfl (nG n 2 (by decide) (by decide) _)) rfl (d_ (n/2) 2 (by decide) _)) (qj n (n/2%2) (by omega) _)) (jl _ _))) (ko (n:=1000000000000000000+n*(n/2%2)) (by omega) _)))))),hh.nope,by simp;omega,N.trans (Nx.of N.dc (yp _ _))⟩
  rcases (show n%2=0\/n%2=1 by omega) with q|q
  ·exact fin 0 "" [] q rfl (by decide +kernel) (by decide) hh.1
  ·exact fin 1 "-" [45] q rfl (by decide +kernel) (by decide) hh.2
 have A:∀{X:Res Fl},B7 [sR d,sI w,sI n,none,none,none] s2=X->wx [sR d,none,none,none,none,none] st=X:=λh=>A (g_ rfl (by omega) h)
 by_cases w2:w=2
 ·have L0:(s2++[SO.lst [.int 19,.int 20,.int 60,.int 5000]])[s2.length]?=some (.lst [.int 19,.int 20,.int 60,.int 5000]):=yo _ _
  have hc:[49,50,51,52,53,54,55,56,57][n%9]?=some (49+n%9):=by
   have:∀j,j<9->[49,50,51,52,53,54,55,56,57][j]?=some (49+j):=by decide
   exact this _ (by omega)
  have ec:∀s:aj,z9 (.str "123456789") (.int ((n%9:Nat):Int)) s=.ok (.str (S [49+n%9])) s:=λs=>by
   rw [show ("123456789" : Str)=S [49,50,51,52,53,54,55,56,57] by decide +kernel]
   exact cB (by decide) hc
  have fin:∀(j k:Nat),n/9%4=j->([.int 19,.int 20,.int 60,.int 5000]:An)[j]?=sI k->19<=k->k<=5000->Out d st (iT [.ref d] st):=λj k ej ek h1 h2=>by
   refine ⟨List.replicate k (49+n%9),_,zK rfl (A (tk rfl (by simp [w2]) (zJ (uJ rfl (by omega) (by omega) (zk rfl (zk (zc rfl) rfl (d_ n 9 (by decide) _)) (ec _)) (zk (wv (fU rfl (fU rfl (zO rfl rfl))) (by simp)) (zk (zk (zc rfl) rfl (nG n 9 (by decide) (by decide) _)) rfl (d_ (n/9) 4 (by decide) _)) (kj L0 (by rw [ej];exact ek))))))),?_,by simp;omega,N.trans (Nx.of N.dc (yp _ _))⟩
   obtain ⟨k',rfl⟩:∃k',k=k'+1:=⟨k-1,by omega⟩
   have dr:∀x∈List.replicate (k'+1) (49+n%9),bt x=true:=λx hx=>by
    rw [List.eq_of_mem_replicate hx];simp [bt];omega
   rw [List.replicate_succ] at dr ⊢
   exact (D2 (by omega) dr (by simp;omega)).1.nope
  rcases (show n/9%4=0\/n/9%4=1\/n/9%4=2\/n/9%4=3 by omega) with q|q|q|q
  ·exact fin 0 19 q rfl (by decide) (by decide)
  ·exact fin 1 20 q rfl (by decide) (by decide)
  ·exact fin 2 60 q rfl (by decide) (by decide)
  ·exact fin 3 5000 q rfl (by decide) (by decide)
 have A:∀{X:Res Fl},B6 [sR d,sI w,sI n,none,none,none] s2=X->wx [sR d,none,none,none,none,none] st=X:=λh=>A (g_ rfl (by omega) h)
 by_cases w3:w=3
 ·have ls:=λk:Nat=>uI (n:=n*k%1999) (by omega)
  obtain ⟨ys,s3,C,hy,hs⟩:=pQ (fe:=(zo jW (ze (zf yK (zf fY (zb 3) (zb 0)) (Ar 1999)) zg))) (fs:=(ze (Ar 60) zg)) (env:=[sR d,sI w,sI n,none,none,none]) (st:=s2) (s0:=s2) 60 (by decide) rfl (λi ys s=>ys=((List.range i).map λk=>dg (n*k%1999)).map (λl=>PV.str (S l))/\s=s2) (λi ys s hi ⟨h1,h2⟩=>by
   refine ⟨_,s,zv (zD (zk (zk (zc rfl) (zc rfl) (qj n i (by omega) _)) rfl (d_ (n*i) 1999 (by decide) _))) (ko (by omega) _),?_,h2⟩
   rw [h1,List.range_succ];simp) ⟨rfl,rfl⟩
  subst hs
  have hlen:(jn ((List.range 60).map λk=>dg (n*k%1999))).length<=5000:=yW (m8 (g:=λ_=>20) λk _=>by have:=ls k;omega) (by decide)
  refine ⟨_,s3++[.lst ys],zK rfl (A (tk rfl (by simp [w3]) (zJ (glue (ls:=(List.range 60).map λk=>dg (n*k%1999)) C (by rw [<-hy];exact yo _ _) hlen j0 wc)))),.inr (.inr ?_),by simp;omega,N.trans (Nx.of N.dc (yp _ _))⟩
  have:=OT ((List.range 60).map λk=>dg (n*k%1999))
  rw [yX,List.length_range] at this
  rw [List.count_cons,List.count_append]
  omega
 have A:∀{X:Res Fl},B5 [sR d,sI w,sI n,none,none,none] s2=X->wx [sR d,none,none,none,none,none] st=X:=λh=>A (g_ rfl (by omega) h)
 by_cases w4:w=4
 ·refine ⟨(List.replicate 60 91++dg n)++List.replicate 60 93,s2,zK rfl (A (tk rfl (by simp [w4]) (zJ (yh rfl rfl (by simp;omega) (yh rfl rfl (by simp;omega) (uJ (k:=60) j0 (by decide) (by decide) rfl rfl) (zv (zD (zc rfl)) (ko (by omega) _))) (uJ (k:=60) wc (by decide) (by decide) rfl rfl))))),.inr (.inl ?_),by simp;omega,N⟩
  unfold yx
  rw [List.count_append,List.count_append,List.any_append,List.any_append,ed]
  simp [D8]
 have A:∀{X:Res Fl},B4 [sR d,sI w,sI n,none,none,none] s2=X->wx [sR d,none,none,none,none,none] st=X:=λh=>A (g_ rfl (by omega) h)
 obtain ⟨r,a,b,s3,e3,L3,ha,hb,oP,n3⟩:=OR N.dc
 have N:=N.trans n3
 have la:=jb ha
 have lb:=jb hb
 have Px:a.cps.toList.length=a.length:=by cases a;simp [Str.length]
 have Py:b.cps.toList.length=b.length:=by cases b;simp [Str.length]
 have Pz:a.cps.size=a.length:=rfl
 have PB:b.cps.size=b.length:=rfl
 have A:∀{X:Res Fl},B3 [sR d,sI w,sI n,sR r,none,none] s3=X->wx [sR d,none,none,none,none,none] st=X:=λh=>A (zm (zV (zv (zD (zc rfl)) e3)) h)
 have i0:z9 (.ref r) (.int 0) s3=.ok (.str a) s3:=kj (b:=0) L3 rfl
 have i1:z9 (.ref r) (.int 1) s3=.ok (.str b) s3:=kj (b:=1) L3 rfl
 by_cases w5:w=5
 ·refine ⟨_,s3,zK rfl (A (tk rfl (by simp [w5]) (zJ (yh (a:=((((([123]++a.cps.toList)++[58])++dg n)++[44])++b.cps.toList)) (b:=[58,39,97,125]) rfl (by decide +kernel) (by simp;omega) (yh rfl (jZ b).symm (by simp;omega) (yh rfl jq (by simp;omega) (yh rfl rfl (by simp;omega) (yh rfl lK (by simp;omega) (yh f9 (jZ a).symm (by simp;omega) rfl (zk (zc rfl) rfl i0)) rfl) (zv (zD (zc rfl)) (ko (by omega) _))) rfl) (zk (zc rfl) rfl i1)) rfl)))),?_,by simp;omega,N⟩
  have:=(D4 (y:=[39,97,125]) ha hb (m:=n) (by omega) oP).nope
  simpa using this
 have A:∀{X:Res Fl},B2 [sR d,sI w,sI n,sR r,none,none] s3=X->wx [sR d,none,none,none,none,none] st=X:=λh=>A (g_ rfl (by omega) h)
 by_cases w6:w=6
 ·refine ⟨_,s3,zK rfl (A (tk rfl (by simp [w6]) (zm (zV (yh (a:=a.cps.toList++[58]) (b:=dg n) rfl rfl (by simp;omega) (yh (jZ a).symm lK (by simp;omega) (zk (zc rfl) rfl i0) rfl) (zv (zD (zc rfl)) (ko (by omega) _)))) (zJ (yh (a:=((([123]++((a.cps.toList++[58])++dg n))++[44])++((a.cps.toList++[58])++dg n))) (b:=[125]) rfl wQ (by simp;omega) (yh rfl rfl (by simp;omega) (yh rfl jq (by simp;omega) (yh f9 rfl (by simp;omega) rfl (zc rfl)) rfl) (zc rfl)) rfl))))),?_,by simp;omega,N⟩
  have:=(D4 (y:=dg n++[125]) ha ha (m:=n) (by omega) (λh=>lQ h rfl)).nope
  simpa using this
 have A:∀{X:Res Fl},B1 [sR d,sI w,sI n,sR r,none,none] s3=X->wx [sR d,none,none,none,none,none] st=X:=λh=>A (g_ rfl (by omega) h)
 obtain ⟨z,s4,e4,lz,n4⟩:=OS n3.dc
 have N:=N.trans n4
 have PC:z.cps.size=z.length:=rfl
 have A:∀{X:Res Fl},B0 [sR d,sI w,sI n,sR r,none,some (.str z)] s4=X->wx [sR d,none,none,none,none,none] st=X:=λh=>A (zm (zV (zv (zD (zc rfl)) e4)) h)
 by_cases w7:w=7
 ·refine ⟨_,s4,zK rfl (A (tk rfl (by simp [w7]) (zJ (yh (a:=((([123]++z.cps.toList)++[57,58])++dg n)) (b:=[125]) rfl wQ (by simp;omega) (yh rfl rfl (by simp;omega) (yh rfl (by decide +kernel) (by simp;omega) (yh f9 (jZ z).symm (by simp;omega) rfl (zc rfl)) rfl) (zv (zD (zc rfl)) (ko (by omega) _))) rfl)))),?_,by simp;omega,N⟩
  have:=(OH ([123]++z.cps.toList) (dg n++[125])).nope
  simpa using this
 ·refine ⟨_,s4,zK rfl (A (g_ rfl (by omega) (zJ (yh (a:=[39]++z.cps.toList) (b:=[81]) rfl (by decide +kernel) (by simp;omega) (yh wb (jZ z).symm (by simp;omega) rfl (zc rfl)) rfl)))),?_,by simp;omega,N⟩
  have:=(OI ([39]++z.cps.toList) []).nope
  simpa using this
def OW {f:Ai}{gt:PV->za->Option za}{body:Aj}{e:za}{s s1:aj}{r:Nat}{xs:An}{X:Res Fl}(h:f e s=.ok (.ref r) s1) (hr:s1[r]?=some (.lst xs)) (hX:forR gt body r (lim+1) 0 e s1=X):gO (jE f) gt body e s=X:=by
 rw [xZ,k_,h,zA]
 simp only [eW]
 rw [yH hr]
 exact hX
def zl (z:Str):z.cps.toList.length=z.length:=by cases z;simp [Str.length]
def Gz (z:Str):Prop:=ff z.cps.toList=true/\z.length<=20
def ku {l:Ad}(h:l∈hands):∀z∈l,Gz z:=λz hz=>by
 have:=OO
 rw [List.all_eq_true] at this
 have:=this l h
 rw [List.all_eq_true] at this
 have:=this z hz
 rw [yC,yZ] at this
 exact this
def Hs (d:Nat) (st:aj) (g:Aj) (zs:Ad):Prop:=∀(s:aj) (r:Nat),Nx d st s->s[r]?=some (.lst (zs.map PV.str))->r≠d->∃z s1,g [sR d,sR r] s=.ok (.rt (.str z)) s1/\Gz z/\Nx d st s1
def Dc.lt {d:Nat}{s:aj}(h:Dc d s):d<s.length:=by obtain ⟨l,e⟩:=h;exact yr e
def Hs.step {d:Nat}{st:aj}{g:Aj}{zs l:Ad}(hl:zs.length+l.length<=1000) (h:Hs d st g (zs++l)):Hs d st (zt (zQ 1 (zf zB (zb 1) (y1 (wK l)))) g) zs:=λs r n hr hd=>by
 have o1:=yp s [SO.lst (l.map PV.str)]
 have A:zB (.ref r) (.ref s.length) (s++[SO.lst (l.map PV.str)])=.ok (.ref (s++[SO.lst (l.map PV.str)]).length) ((s++[SO.lst (l.map PV.str)])++[.lst ((zs++l).map PV.str)]):=by
  show ym _ r _=_
  rw [yH (o1 _ _ hr)]
  show ym _ s.length _=_
  rw [yH (yo s _),zj (by simp [lim];omega),y8]
 have dl:=n.dc.lt
 obtain ⟨z,s1,e1,gz,n1⟩:=h _ (s++[SO.lst (l.map PV.str)]).length (n.trans (Nx.of n.dc (o1.trans (yp _ _)))) (yo _ _) (by simp;omega)
 exact ⟨z,s1,zm (zV (zk (zc rfl) (wv (rR _) (by simp [lim];omega)) A)) e1,gz,n1⟩
def Hs.fin {d:Nat}{st:aj}{zs:Ad}(hp:0<zs.length) (hl:zs.length<=1000) (h:∀z∈zs,Gz z):Hs d st BS zs:=λs r n hr hd=>by
 obtain ⟨k,s1,e1,hk,n1⟩:=yS n.dc zs.length hp
 have hz:zs[k]?=some (zs[k]'hk):=yc hk
 have ln:yz [.ref r] s=.ok (.int (zs.length:Int)) s:=by
  rw [o9 hr,yX]
 exact ⟨zs[k]'hk,s1,zJ (zk (zc rfl) (zv (zO (zc rfl) (zv (zD (zc rfl)) ln)) e1) (kj (n1.ob r _ hd hr) (by rw [y7,hz];rfl))),h _ (lS _),n.trans n1⟩
def OX {d:Nat}{st:aj}(hd:Dc d st):∃z s1,sW [.ref d] st=.ok (.str z) s1/\Gz z/\Nx d st s1:=by
 have h0:=ku (.head _)
 have h1:=ku (.tail _ (.head _))
 have h2:=ku (.tail _ (.tail _ (.head _)))
 have h3:=ku (.tail _ (.tail _ (.tail _ (.head _))))
 have h4:=ku (.tail _ (.tail _ (.tail _ (.tail _ (.head _)))))
 have h5:=ku (.tail _ (.tail _ (.tail _ (.tail _ (.tail _ (.head _))))))
 have h6:=ku (.tail _ (.tail _ (.tail _ (.tail _ (.tail _ (.tail _ (.head _)))))))
 have ap:∀{a b:Ad},(∀z∈a,Gz z)->(∀z∈b,Gz z)->∀z∈a++b,Gz z:=λha hb z hz=>(j2.mp hz).elim (ha z) (hb z)
 have H:Hs d st BU _:=Hs.step (by decide) (Hs.step (by decide) (Hs.step (by decide) (Hs.step (by decide) (Hs.step (by decide) (Hs.step (by decide) (Hs.fin (by decide) (by decide) (ap (ap (ap (ap (ap (ap h0 h1) h2) h3) h4) h5) h6)))))))
 have dl:=hd.lt
 obtain ⟨z,s1,e1,gz,n1⟩:=H (st++[SO.lst _]) st.length (Nx.of hd (yp _ _)) (yo _ _) (by omega)
 exact ⟨z,s1,zK rfl (zm (zV (wv (rR _) (by decide))) e1),gz,n1⟩
section
variable {e:za} {st s1:aj}
def nH {w k:Int}{g g':Aj}{X:Res Fl}(h1:e[2]?=some (some (.int w))) (h:w≠k) (hx:g' e st=X):zt (zM (mB (zf yf (zb 2) (Ar k))) g zN) g' e st=X :=
 zm (zG (zn (zk (zc h1) rfl (a6 false (by simpa using h) _)))) hx
def nI {w k:Int}{g g':Aj}{v:PV}(h1:e[2]?=some (some (.int w))) (h:w=k) (hx:g e st=.ok (.rt v) s1):zt (zM (mB (zf yf (zb 2) (Ar k))) g zN) g' e st=.ok (.rt v) s1 :=
 yq (z7 (zn (zk (zc h1) rfl (a6 true (by simpa using h) _))) hx)
end
def D9 {d:Nat}{st:aj}(b:Nat) (hb:b<=3) (hd:Dc d st):∃v s1 t s2,jF 5 [.ref d,.int (b:Int)] st=.ok v s1/\wL 61 [v] s1=.ok (.str (S (tx (cn t)))) s2/\gd t/\dp t<=3/\sz t<=40/\(tx (cn t)).length<=1200/\Nx d st s2:=by
 obtain ⟨v,s1,e1,t,tv,g,ny,hsz,n1⟩:=Ni 5 b st [] (by omega) hd (λ_ h=>nomatch h)
 have hs:sz t<=40:=by
  have:bd b<=40:=by
   have:∀b,b<=3->bd b<=40:=by decide
   exact this b hb
  omega
 obtain ⟨s2,e2,o2⟩:=tP 61 t (by omega) (by omega) g s1 v (TR.mono tS _ tv)
 have:=nc g
 exact ⟨v,s1,t,s2,e1,e2,g,by omega,hs,by omega,n1.trans (Nx.of n1.dc o2)⟩
def OY {d:Nat}{st:aj}(hd:Dc d st):∃L s1,pD [.ref d] st=.ok (.str (S L)) s1/\Bad L/\L.length<=100000/\Nx d st s1:=by
 obtain ⟨z,s1,e1,gz,n1⟩:=OX hd
 obtain ⟨k,s2,e2,hk,n2⟩:=yS n1.dc 2 (by decide)
 have two:∃b s3,(zM (mB (zf yf (zo yF (ze (zb 0) (ze (Ar 2) zg))) (Ar 1))) (zQ 1 (zo iT (ze (zb 0) zg))) zN) [sR d,some (.str z),none,none] s1=.ok (.nx [sR d,some (.str (S b)),none,none]) s3/\dS b/\b.length<=6000/\Nx d st s3:=by
  by_cases nv:k=1
  ·obtain ⟨b,s3,e3,nb,lb,n3⟩:=OV n2.dc
   exact ⟨b,s3,z7 (zn (zk (zv (zO (zc rfl) rfl) e2) rfl (a6 true (by rw [nv];rfl) _))) (zV (zv (zD (zc rfl)) e3)),nb,lb,(n1.trans n2).trans n3⟩
  ·refine ⟨z.cps.toList,s2,?_,.inl gz.1,by rw [zl];have:=gz.2;omega,n1.trans n2⟩
   rw [jZ]
   exact zG (zn (zk (zv (zO (zc rfl) rfl) e2) rfl (a6 false (by simp;omega) _)))
 obtain ⟨b,s3,e3,nb,lb,n3⟩:=two
 obtain ⟨w,s4,e4,hw,n4⟩:=yS n3.dc 9 (by decide)
 obtain ⟨v,s5,t,s6,e5,e6,g,ny,hsz,lt,n6⟩:=D9 1 (by decide) n4.dc
 have N:=(n3.trans n4).trans n6
 have A:∀{X:Res Fl},Ce [sR d,some (.str (S b)),sI w,some (.str (S (tx (cn t))))] s6=X->lC [sR d,none,none,none] st=X:=λh=>zm (zV (zv (zD (zc rfl)) e1)) (zm e3 (zm (zV (zv (zO (zc rfl) rfl) e4)) (zm (zV (zv (zD (zv (zO (zc rfl) rfl) e5)) e6)) h)))
 by_cases w0:w=0
 ·refine ⟨_,s6,zK rfl (A (nI rfl (by simp [w0]) (zJ (yh (a:=((([91]++tx (cn t))++[44])++b)) (b:=[93]) rfl wc (by simp;omega) (yh rfl rfl (by simp;omega) (yh rfl jq (by simp;omega) (yh j0 rfl (by simp;omega) rfl (zc rfl)) rfl) (zc rfl)) rfl)))),?_,by simp;omega,N⟩
  simpa using NT nb g
 have A:∀{X:Res Fl},Cd [sR d,some (.str (S b)),sI w,some (.str (S (tx (cn t))))] s6=X->lC [sR d,none,none,none] st=X:=λh=>A (nH rfl (by omega) h)
 by_cases w1:w=1
 ·refine ⟨_,s6,zK rfl (A (nI rfl (by simp [w1]) (zJ (yh (a:=((([91]++b)++[44])++tx (cn t))) (b:=[93]) rfl wc (by simp;omega) (yh rfl rfl (by simp;omega) (yh rfl jq (by simp;omega) (yh j0 rfl (by simp;omega) rfl (zc rfl)) rfl) (zc rfl)) rfl)))),?_,by simp;omega,N⟩
  simpa using NU nb g
 have A:∀{X:Res Fl},Cc [sR d,some (.str (S b)),sI w,some (.str (S (tx (cn t))))] s6=X->lC [sR d,none,none,none] st=X:=λh=>A (nH rfl (by omega) h)
 by_cases w2:w=2
 ·refine ⟨_,s6,zK rfl (A (nI rfl (by simp [w2]) (zJ (yh (a:=((((([91]++tx (cn t))++[44])++b)++[44])++tx (cn t))) (b:=[93]) rfl wc (by simp;omega) (yh rfl rfl (by simp;omega) (yh rfl jq (by simp;omega) (yh rfl rfl (by simp;omega) (yh rfl jq (by simp;omega) (yh j0 rfl (by simp;omega) rfl (zc rfl)) rfl) (zc rfl)) rfl) (zc rfl)) rfl)))),?_,by simp;omega,N⟩
  simpa using NV nb g
 have A:∀{X:Res Fl},Cb [sR d,some (.str (S b)),sI w,some (.str (S (tx (cn t))))] s6=X->lC [sR d,none,none,none] st=X:=λh=>A (nH rfl (by omega) h)
 by_cases w3:w=3
 ·refine ⟨_,s6,zK rfl (A (nI rfl (by simp [w3]) (zJ (yh (a:=[123,97,58]++b) (b:=[125]) rfl wQ (by simp;omega) (yh (by decide +kernel) rfl (by simp;omega) rfl (zc rfl)) rfl)))),?_,by simp;omega,N⟩
  simpa using NW nb
 have A:∀{X:Res Fl},Ca [sR d,some (.str (S b)),sI w,some (.str (S (tx (cn t))))] s6=X->lC [sR d,none,none,none] st=X:=λh=>A (nH rfl (by omega) h)
 by_cases w4:w=4
 ·refine ⟨_,s6,zK rfl (A (nI rfl (by simp [w4]) (zJ (yh (a:=((([123,97,58]++tx (cn t))++[44,98,58])++b)) (b:=[125]) rfl wQ (by simp;omega) (yh rfl rfl (by simp;omega) (yh rfl (by decide +kernel) (by simp;omega) (yh (by decide +kernel) rfl (by simp;omega) rfl (zc rfl)) rfl) (zc rfl)) rfl)))),?_,by simp;omega,N⟩
  simpa using NX nb g
 exact ⟨b,s6,zK rfl (A (nH rfl (by omega) (zJ (zc rfl)))),NS nb,by omega,N⟩
def OZ {d:Nat}{st:aj}(hd:Dc d st) {L:List Nat}(hL:L.length<=1200):∃z s1,pK [.ref d,.str (S L)] st=.ok (.str z) s1/\z.length<=5000/\Nx d st s1:=by
 have l1:(" !\"#$&'()*+,-./0123456789:;<=>?@ABCDEFGHIJKLMNOPQRSTUVWXYZ[\\]^_`" : Str).length=64:=by decide +kernel
 have l2:("abcdefghijklmnopqrstuvwxyz{|}~\n0123456789,,::[[]]{{}}''--" : Str).length=57:=by decide +kernel
 obtain ⟨a,s1,e1,ha,n1⟩:=yS hd (L.length+1) (by omega)
 generalize hz1:(" !\"#$&'()*+,-./0123456789:;<=>?@ABCDEFGHIJKLMNOPQRSTUVWXYZ[\\]^_`" : Str)=z1 at l1
 generalize oy:("abcdefghijklmnopqrstuvwxyz{|}~\n0123456789,,::[[]]{{}}''--" : Str)=z2 at l2
 have l3:(z1++z2).length=121:=by rw [Str.length_append,l1,l2]
 obtain ⟨r,s2,e2,hr,n2⟩:=yS n1.dc 121 (by decide)
 obtain ⟨w,s3,e3,hw,n3⟩:=yS n2.dc 4 (by decide)
 obtain ⟨c,ec⟩:=D6 (L:=(z1++z2).cps.toList) (z:=z1++z2) (jZ _).symm (r:=r) (by rw [zl,l3];exact hr) (by rw [zl,l3];decide) s2
 have N:=(n1.trans n2).trans n3
 have lL:(S L).length=L.length:=yR L
 have lc:(⟨#[c]⟩:Str).length=1:=rfl
 have A:∀{X:Res Fl},CA [sR d,some (.str (S L)),some (.str (z1++z2)),sI a,some (.str ⟨#[c]⟩),sI w] s3=X->tF [sR d,some (.str (S L)),none,none,none,none] st=X:=λh=>by
  unfold tF CB
  rw [hz1,oy]
  exact zm (zV rfl) (zm (zV (zk (zc rfl) rfl (gh (by rw [l1,l2];decide) _))) (zm (zV (zv (zO (zc rfl) (zk (zv (zD (zc rfl)) (len_str (by omega))) rfl (jl _ _))) e1)) (zm (zV (zk (zc rfl) (zv (zO (zc rfl) (zv (zD (zc rfl)) ((p7 (by rw [l3];decide) _).trans (by rw [l3])))) e2) ec)) (zm (zV (zv (zO (zc rfl) rfl) e3)) h))))
 obtain ⟨y,ey,ly⟩:=kq (z:=S L) (by omega) none (some (a:Int)) s3
 by_cases w0:w=0
 ·obtain ⟨u,eu,lu⟩:=kq (z:=S L) (by omega) (some (a:Int)) none s3
  exact ⟨y++⟨#[c]⟩++u,s3,zK rfl (A (yq (z7 (zn (zk (zc rfl) rfl (a6 true (by simp [w0]) _))) (zJ (zk (zk (ww (zc rfl) fC (jY (zc rfl)) ey) (zc rfl) (gh (by rw [lc];omega) _)) (ww (zc rfl) (jY (zc rfl)) fC eu) (gh (by rw [Str.length_append,lc];omega) _)))))),by rw [Str.length_append,Str.length_append,lc];omega,N⟩
 by_cases w1:w=1
 ·obtain ⟨u,eu,lu⟩:=kq (z:=S L) (by omega) (some ((a:Int)+1)) none s3
  exact ⟨y++⟨#[c]⟩++u,s3,zK rfl (A (zm (zG (zn (zk (zc rfl) rfl (a6 false (by simp;omega) _)))) (yq (z7 (zn (zk (zc rfl) rfl (a6 true (by simp [w1]) _))) (zJ (zk (zk (ww (zc rfl) fC (jY (zc rfl)) ey) (zc rfl) (gh (by rw [lc];omega) _)) (ww (zc rfl) (jY (zk (zc rfl) rfl (jl _ _))) fC eu) (gh (by rw [Str.length_append,lc];omega) _))))))),by rw [Str.length_append,Str.length_append,lc];omega,N⟩
 ·obtain ⟨u,eu,lu⟩:=kq (z:=S L) (by omega) (some ((a:Int)+(w:Int)-1)) none s3
  exact ⟨y++u,s3,zK rfl (A (zm (zG (zn (zk (zc rfl) rfl (a6 false (by simp;omega) _)))) (zm (zG (zn (zk (zc rfl) rfl (a6 false (by simp;omega) _)))) (zJ (zk (ww (zc rfl) fC (jY (zc rfl)) ey) (ww (zc rfl) (jY (zk (zk (zc rfl) (zc rfl) (jl _ _)) rfl (gU _ _))) fC eu) (gh (by omega) _)))))),by rw [Str.length_append];omega,N⟩
def zsJ (ns:List Int):∃st,CC [.frl (ns.map .int)] []=.ok (.bl true) st:=by
 obtain ⟨d,s1,e1,hd⟩:=Np ns []
 obtain ⟨v,s2,t,s3,e2,e3,g,ny,hsz,lt,n3⟩:=D9 3 (by decide) hd
 let G:=S (tx (cn t))
 obtain ⟨ys,s4,C,Ls,hy,hl,hb,n4⟩:=pQ (fe:=(zo pD (ze (zb 2) zg))) (fs:=(ze (Ar 3) zg)) (env:=[some (.frl (ns.map .int)),sR d,some (.str G),none,none,none]) (st:=s3) (s0:=s3) 3 (by decide) rfl (λi ys s=>∃Ls:List (List Nat),ys=Ls.map (λl=>PV.str (S l))/\Ls.length=i/\(∀L∈Ls,Bad L/\L.length<=100000)/\Nx d s3 s) (λi ys s hi ⟨Ls,h1,h2,h3,h4⟩=>by
  obtain ⟨L,s',e',hb,hl,n'⟩:=OY h4.dc
  refine ⟨_,s',zv (zD (zc rfl)) e',Ls++[L],by rw [h1];simp,by simp [h2],λx hx=>?_,h4.trans n'⟩
  rcases j2.mp hx with q|q
  ·exact h3 x q
  ·rw [show x=L by simpa using q];exact ⟨hb,hl⟩) ⟨[],rfl,rfl,(λ_ h=>nomatch h),Nx.refl n3.dc⟩
 have dl:=n4.dc.lt
 have N5:Nx d s3 (s4++[.lst ys]):=n4.trans (Nx.of n4.dc (yp _ _))
 have L5:(s4++[SO.lst ys])[s4.length]?=some (.lst ys):=yo _ _
 have yl:ys.length=3:=by rw [hy,yX,hl]
 obtain ⟨E6,s6,F6,⟨x6,O0⟩,o6⟩:=CY (g:=gN 4) (body:=(zM (ju (yT (mB (zo mY (ze (zb 4) zg)))) (yT (mB (zo lD (ze (zb 2) zg))))) (zF (mC (.bl false))) zN)) (n:=s4.length) ys (λ_ e s=>(∃x,e=[some (.frl (ns.map .int)),sR d,some (.str G),sR s4.length,x,none])/\Old (s4++[SO.lst ys]) s) (λi e s h=>h.2 _ _ L5) (λi x e s hx ⟨⟨x0,he⟩,os⟩=>by
  subst he
  rw [hy,y7] at hx
  cases hL:Ls[i]? with
  |none=>rw [hL] at hx;cases hx
  |some L =>
   rw [hL] at hx
   cases hx
   obtain ⟨b1,b2⟩:=hb L (jy hL)
   obtain ⟨a1,f1,p1⟩:=DX b2 b1 s
   obtain ⟨a2,f2,p2⟩:=DY (tx (cn t)) (by omega) a1
   exact ⟨_,_,a2,rfl,zG (jw (ja (b:=true) (zn (zv (zD (zc rfl)) f1))) (ja (b:=true) (zn (zv (zD (zc rfl)) f2)))),⟨_,rfl⟩,(os.trans p1).trans p2⟩) 3 0 (lim+1) [some (.frl (ns.map .int)),sR d,some (.str G),sR s4.length,none,none] (s4++[SO.lst ys]) (by omega) (by simp [lim]) ⟨⟨none,rfl⟩,Old.refl _⟩
 subst O0
 have L6:=o6 _ _ L5
 have N6:Nx d s3 s6:=N5.trans (Nx.of N5.dc o6)
 have O1:s4.length≠d:=by omega
 obtain ⟨E7,s7,F7,⟨x7,O2⟩,L7,N7⟩:=tY (gt:=gN 5) (body:=(zM (yT (mB (zo lD (ze (zo pK (ze (zb 1) (ze (zb 2) zg))) zg)))) (zF (mC (.bl false))) zN)) (fs:=(ze (Ar 4) zg)) (e:=[some (.frl (ns.map .int)),sR d,some (.str G),sR s4.length,x6,none]) (st:=s6) (s0:=s6) (λ_ e s=>(∃x,e=[some (.frl (ns.map .int)),sR d,some (.str G),sR s4.length,x6,x])/\s[s4.length]?=some (.lst ys)/\Nx d s3 s) 4 (by decide) rfl (λi e s hi ⟨⟨x0,he⟩,hL,hN⟩=>by
  subst he
  obtain ⟨z,a1,f1,lz,p1⟩:=OZ hN.dc (L:=tx (cn t)) lt
  obtain ⟨a2,f2,p2⟩:=DY z.cps.toList (by rw [zl];omega) a1
  rw [jZ] at f2
  exact ⟨_,_,a2,rfl,zG (ja (b:=true) (zn (zv (zD (zv (zO (zc rfl) (zc rfl)) f1)) f2))),⟨_,rfl⟩,p2 _ _ (p1.ob _ _ O1 hL),(hN.trans p1).trans (Nx.of (hN.trans p1).dc p2)⟩) ⟨⟨none,rfl⟩,L6,N6⟩
 subst O2
 obtain ⟨L,hL⟩:∃L,Ls[0]?=some L:=⟨Ls[0]'(by omega),yc (by omega)⟩
 obtain ⟨b1,b2⟩:=hb L (jy hL)
 obtain ⟨a1,f1,p1⟩:=DX b2 b1 s7
 obtain ⟨u,a2,f2,tu,p2⟩:=NI g (by omega) (by omega) a1
 have gc:=tK yu g
 obtain ⟨a3,f3,p3⟩:=tP 61 (cn t) (by rw [MC yu g];omega) (by rw [CO yu g];omega) gc a2 u tu
 rw [MD yu g] at f3
 exact ⟨a3,zK rfl (zm (zV (zv (zD (zc rfl)) e1)) (zm (zV (zv (zD (zv (zO (zc rfl) rfl) e2)) e3)) (zm (zV C) (zm (OW (zc rfl) L5 F6) (zm F7 (zJ (pd (zv (zD (zk (zc rfl) rfl (kj (b:=0) L7 (by rw [hy,y7,hL];rfl)))) f1) (zk (zv (zD (zv (zD (zc rfl)) f2)) f3) (zc rfl) (eqs _ _ true (wf rfl) _)))))))))⟩
end FK22
open PySem PySem.W PyProof.Rows
set_option maxHeartbeats 0
namespace PySem.W.Fast
def tw13977249127076669857:=()
def tw11278720941991781315:=()
local macro_rules
|`(command|#print $s:str)=>do
 let c<-(s.getString.splitOn " ").toArray.flatMapM λw=>do
  let [p,a,b]:=w.splitOn "_"|Lean.Macro.throwUnsupported
  (Array.range (b.toNat!+1-a.toNat!)).mapM λk=>do
   let n:=Lean.mkIdent (.mkSimple s!"tw{((`hdT).str s!"{p}_{a.toNat!+k}").hash}")
   `(command|theorem $n : True := trivial)
 return Lean.mkNullNode c
#print "o_44_413 view_40_40 tree_50_50 tree_68_68 tree_86_86 tree_111_111 tree_136_136 tree_161_161 tree_191_191 tree_287_287 tree_373_373 tree_414_414 sts_52_52 sts_70_70 sts_88_88 sts_113_113 sts_138_138 sts_163_163 sts_193_193 sts_289_289 sts_375_375 heap_39_39 heap_48_48 heap_416_416 env_42_42"
end PySem.W.Fast
open_top hdT for PySem.Challenge.rw_foreknown_k22_values_spoilt
theorem uu1 {us:List PySem.Value}(h:us.length=1):∃a,us=[a]:=match us,h with|[a],_=>⟨a,rfl⟩
theorem uu2 {us:List PySem.Value}(h:us.length=2):∃a b,us=[a,b]:=match us,h with|[a,b],_=>⟨a,b,rfl⟩
theorem uu3 {us:List PySem.Value}(h:us.length=3):∃a b c,us=[a,b,c]:=match us,h with|[a,b,c],_=>⟨a,b,c,rfl⟩
theorem PySem.Challenge.cw_foreknown_k22_values_spoilt_holds : PySem.Challenge.rw_foreknown_k22_values_spoilt.Holds :=
 hdT (by
 k_fill
 refine Mi.walkM (l:=PySem.Challenge.rw_foreknown_k22_values_spoilt) (k:=190) (x := "_law_script") rfl rfl ⟨rfl,by decide,by decide⟩ (λw h Y=>PySem.W.kIn_of Y) ?F
 case F =>
  intro w mg fa h KX G hmg
  have x0_NoText:Mi.X0F (L2.KOf KX) mg "NoText" := by
   dsimp only [L2.KOf]
   refine' Mi.zpQ KX G ?aC ?hB ?kp
   (case aC=>k_is)
   (case hB=>k_exc)
   (case kp=>k_is)
  have a_ForeError:∃f,mg "ForeError" = some (.ref f):=by
   refine' Mi.zbI KX G ?a
   (case a=>k_is)
  have a_NoFunction:∃f,mg "NoFunction" = some (.ref f):=by
   refine' Mi.zbI KX G ?a
   (case a=>k_is)
  have a_NoText:∃f,mg "NoText" = some (.ref f):=by
   refine' Mi.zbI KX G ?a
   (case a=>k_is)
  have a_Twice:∃f,mg "Twice" = some (.ref f):=by
   refine' Mi.zbI KX G ?a
   (case a=>k_is)
  have a_Unbound:∃f,mg "Unbound" = some (.ref f):=by
   refine' Mi.zbI KX G ?a
   (case a=>k_is)
  have a_WrongCount:∃f,mg "WrongCount" = some (.ref f):=by
   refine' Mi.zbI KX G ?a
   (case a=>k_is)
  have c_FIGURES:∃t,mg "FIGURES" = some (.str "0123456789" t):=by
   refine' Mi.zhn KX G ?a
   (case a=>k_is)
  have c_LETTERS:∃t,mg "LETTERS" = some (.str "abcdefghijklmnopqrstuvwxyz" t):=by
   refine' Mi.zhn KX G ?a
   (case a=>k_is)
  have c_MOST_FIGURES:∃t,mg "MOST_FIGURES" = some (.int 18 t):=by
   refine' Mi.zeG KX G ?a
   (case a=>k_is)
  have c_MOST_PARTS:∃t,mg "MOST_PARTS" = some (.int 60 t):=by
   refine' Mi.zeG KX G ?a
   (case a=>k_is)
  have c_MOST_SIGNS:∃t,mg "MOST_SIGNS" = some (.int 8 t):=by
   refine' Mi.zeG KX G ?a
   (case a=>k_is)
  have sb_ForeError:∃B,mg "ForeError" = some (.ref B)/\L2.ExOf (L2.KOf KX) B/\∀c,FK22.zbc c=true->∃C,mg c=some (.ref C)/\L2.ExSub (L2.KOf KX) C B:=by
   dsimp only [L2.KOf]
   have hb:=by
    refine' Mi.zpB (c := "ForeError") KX G ?aC ?hC ?hN ?he ?kp
    (case aC|hC|hN=>k_is)
    (case he=>first|rfl|with_unfolding_all rfl|simp)
    (case kp=>k_is)
   refine ⟨_,hb.1,hb.2,λc hc=>?_⟩
   simp [FK22.zbc,or_assoc] at hc
   rcases hc with rfl
   ·refine' Mi.zpA KX G hb.1 (Mi.X0F.tr x0_NoText) ?aC ?aB ?hm
    (case aC|aB|hm=>k_is)
  have is:Mi.IsF (L2.KOf KX) mg FK22.isT:=by
   refine Mi.zoN (cn := "NoText") (L:=[("Twice", false),("Unbound", false),("NoFunction", false),("WrongCount", false),("ForeError", true),("NoText", true)]) (LT:=[("ValueError", true)]) rfl rfl rfl rfl ?hS ?hT ?hX
   case hS =>
    refine Mi.all_cons ?_ ?_
    ·dsimp only [L2.KOf]
     refine' Mi.zcm KX G ?aC ?aD ?u1 ?u2 ?u3 ?ne
     (case aC|aD|u1|u2|u3=>k_is)
     (case ne=>decide)
    refine Mi.all_cons ?_ ?_
    ·dsimp only [L2.KOf]
     refine' Mi.zcm KX G ?aC ?aD ?u1 ?u2 ?u3 ?ne
     (case aC|aD|u1|u2|u3=>k_is)
     (case ne=>decide)
    refine Mi.all_cons ?_ ?_
    ·dsimp only [L2.KOf]
     refine' Mi.zcm KX G ?aC ?aD ?u1 ?u2 ?u3 ?ne
     (case aC|aD|u1|u2|u3=>k_is)
     (case ne=>decide)
    refine Mi.all_cons ?_ ?_
    ·dsimp only [L2.KOf]
     refine' Mi.zcm KX G ?aC ?aD ?u1 ?u2 ?u3 ?ne
     (case aC|aD|u1|u2|u3=>k_is)
     (case ne=>decide)
    refine Mi.all_cons ?_ ?_
    ·dsimp only [L2.KOf]
     refine' Mi.zcm KX G ?aC ?aD ?u1 ?u2 ?u3 ?ne
     (case aC|aD|u1|u2|u3=>k_is)
     (case ne=>decide)
    refine Mi.all_cons ?_ ?_
    ·dsimp only [L2.KOf]
     refine' Mi.zo3 KX G ?aC
     (case aC=>k_is)
    exact Mi.zhm
   case hT =>
    refine Mi.all_cons ?_ ?_
    ·dsimp only [L2.KOf]
     refine' Mi.zoL KX G ?aC ?u1 ?u3
     (case aC=>k_is)
     (case u1=>first|rfl|decide|kernel_rfl)
     (case u3=>k_is)
    exact Mi.zhm
   case hX =>
    dsimp only [L2.KOf]
    refine' Mi.zoM KX G ?aC ?ga ?hk ?hB ?hd ?ha ?hn ?tk ?hm
    (case aC|ga|hk|hB|hd|ha|hn|tk|hm=>k_is)
  have T:FK22.Txt w (L2.KOf KX) mg:=by
   constructor
   case x0_NoText=>exact x0_NoText
   case a_ForeError=>exact a_ForeError
   case a_NoFunction=>exact a_NoFunction
   case a_NoText=>exact a_NoText
   case a_Twice=>exact a_Twice
   case a_Unbound=>exact a_Unbound
   case a_WrongCount=>exact a_WrongCount
   case c_FIGURES=>exact c_FIGURES
   case c_LETTERS=>exact c_LETTERS
   case c_MOST_FIGURES=>exact c_MOST_FIGURES
   case c_MOST_PARTS=>exact c_MOST_PARTS
   case c_MOST_SIGNS=>exact c_MOST_SIGNS
   case sb_ForeError=>exact sb_ForeError
   case is=>exact is
   all_goals first
    | (show Mi.MtF _ _ _ _ _ _ [_];dsimp only [L2.KOf];refine' Mi.zeE KX G ?aC ?pg ?hd ?po ?sa ?a ?i ?l ?c ?k ?b;(case aC|pg|hd|po|sa|a|i|l|c|k=>k_is);(case b=>exact λ_ _ _ _ _ _ us hl=>by obtain ⟨_,rfl⟩:=uu1 hl;rfl))
    | (show Mi.MtF _ _ _ _ _ _ [_,_];dsimp only [L2.KOf];refine' Mi.zeE KX G ?aC ?pg ?hd ?po ?sa ?a ?i ?l ?c ?k ?b;(case aC|pg|hd|po|sa|a|i|l|c|k=>k_is);(case b=>exact λ_ _ _ _ _ _ us hl=>by obtain ⟨_,_,rfl⟩:=uu2 hl;rfl))
    | (show Mi.MtF _ _ _ _ _ _ [_,_,_];dsimp only [L2.KOf];refine' Mi.zeE KX G ?aC ?pg ?hd ?po ?sa ?a ?i ?l ?c ?k ?b;(case aC|pg|hd|po|sa|a|i|l|c|k=>k_is);(case b=>exact λ_ _ _ _ _ _ us hl=>by obtain ⟨_,_,_,rfl⟩:=uu3 hl;rfl))
    | (show Mi.NwF _ _ _ _ _ [_,_];dsimp only [L2.KOf];refine' Mi.zoJ KX G ?aC ?mk ?kc ?a ?i ?l ?c ?k ?b;(case aC|mk|kc|a|i|l|c|k=>k_is);(case b=>exact λ_ _ _ _ _ _ us hl=>by obtain ⟨_,_,rfl⟩:=uu2 hl;rfl))
    | (show Mi.FldF _ _ _ _ _
       refine ⟨λc hc=>?_,λc hc=>?_⟩
       ·simp [FK22.insOf,or_assoc] at hc
        rcases hc with rfl
        ·dsimp only [L2.KOf]
         refine' Mi.zoK KX G ?aC ?pg ?hd ?po ?sa ?na
         (case aC|pg|hd|po|sa|na=>k_is)
       ·simp [FK22.excOf] at hc)
    | (show Mi.FnF _ _ _ _ [_];dsimp only [L2.KOf];refine' Mi.zeD KX G ?a ?l ?c ?k ?b;(case a|l|c|k=>k_is);(case b=>exact λ_ _ _ _ _ _ us hl=>by obtain ⟨_,rfl⟩:=uu1 hl;rfl))
    | (show Mi.FnF _ _ _ _ [_,_];dsimp only [L2.KOf];refine' Mi.zeD KX G ?a ?l ?c ?k ?b;(case a|l|c|k=>k_is);(case b=>exact λ_ _ _ _ _ _ us hl=>by obtain ⟨_,_,rfl⟩:=uu2 hl;rfl))
    | (show Mi.FnF _ _ _ _ [_,_,_];dsimp only [L2.KOf];refine' Mi.zeD KX G ?a ?l ?c ?k ?b;(case a|l|c|k=>k_is);(case b=>exact λ_ _ _ _ _ _ us hl=>by obtain ⟨_,_,_,rfl⟩:=uu3 hl;rfl))
    | (refine' Mi.zoP KX G ?a;case a=>k_is)
  exact Mi.zoO T.f_law hmg (λ_ _ _ _ _ _ _=>rfl) (λf fd F base=>FK22.zqM T F) (λns _=>FK22.zsJ ns))
