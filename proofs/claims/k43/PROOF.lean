import PyProof.Rows.All
import Wide.All
import OpenK.AllK
import Wide.FinOn
import Lean
import PyProof.EqAt
import PyProof.EqKinds
import PyProof.TupleCall
import PySem.Challenge.RW_foreknown_k43_nothing_taken_out
set_option Elab.async false
set_option linter.all false
set_option maxRecDepth 100000
abbrev Aa:=PySem.Value->PySem.Shared->Prop
abbrev Ab:=PySem.Str->Option PySem.Value
abbrev Ac:=List (PySem.Addr×PySem.Obj)
abbrev Ad:=List PySem.Str
abbrev Ae:=List PySem.Addr
abbrev Af:=List PySem.Value
def zA:=@PySem.wpAny_bind
def yC:=@PySem.Heap.get?_push_of_some
def yg:=@PySem.wpAny_pure
def yF:=@PySem.Heap.lt_size
def jq:=@PySem.Heap.get?_push_size
def jF:=@PySem.wpAny_field
def w8:=@PySem.wpAny_call_entry
def kg:=@PySem.wpAny_newObj_type
def wD:=@PySem.wpAny_holding
def wj:=@PySem.wpAny_mono
def iw:=@PySem.Heap.get?_update_other
def kh:=@PySem.wpAny_truthy_bool
def wE:=@PySem.lookup_relabel_local
def yB:=@List.getElem?_eq_getElem
def yA:=@List.getElem?_set_ne
def yl:=@List.getElem?_eq_some_iff
def ju:=@List.getElem?_set_self
def yk:=@Nat.le_refl
def yV:=@List.size_toArray
def yO:=@List.mem_cons_self
def yX:=@List.mem_cons_of_mem
def jm:=@List.mem_append_right
def wF:=@List.mem_append_left
def zF:=@if_pos
def zR:=@if_neg
def jP:=@List.mem_singleton
def yI:=@List.getElem?_map
def yz:=@List.mem_cons
def j8:=@List.drop_eq_getElem_cons
def jr:=@Nat.le_trans
def wP:=@List.getElem_mem
def iA:=@List.length_append
def iB:=@if_true
def js:=@Nat.zero_le
def jV:=@List.mem_of_getElem?
def yM:=@List.length_map
def jA:=@List.map_append
def jW:=@Nat.lt_of_lt_of_le
def gy:=@or_false
def yo:=@List.map_cons
def jg:=@Nat.ne_of_lt
def pj:=@List.range_succ
def w9:=@Bool.and_eq_true
def jd:=@List.mem_map
def jG:=@List.mem_append
def jt:=@List.length_cons
def jB:=@List.nodup_cons
def wQ:=@List.getElem?_append_left
def iC:=@List.getElem?_append_right
def jC:=@decide_eq_false
def jJ:=@decide_eq_true
def jX:=@Nat.mod_lt
def iD:=@List.drop_of_length_le
def rR:=@List.flatMap_cons
def gd:=@List.lookup_cons
def rS:=@List.getElem?_eq_none
def lU:=@List.getElem?_eq_none_iff
def wG:=@List.append_assoc
def ki:=@List.mem_range
def iE:=@decide_eq_true_eq
def ja:=@Ne.symm
def wv:=@Nat.lt_succ_self
namespace L2
open PySem PySem.Spec PyProof.Rows
abbrev Key:=Sum Int Str
def eX:Key->Value->Bool
 | .inl k,v=>Value.isInt k v
 | .inr x,v=>Value.isStrOf x v
def Cn (w:World):Key->Int
 | .inl k=>hashInt k
 | .inr x=>hashStr w x
def iF:∀{k:Key}{v:Value},eX k v=true->(∃i t,k=Sum.inl i/\v=Value.int i t)\/(∃x t,k=Sum.inr x/\v=Value.str x t)
 | .inl i,v,h=>by
  obtain ⟨t,e⟩:=Value.isInt_shape (k:=i) (v:=v) h
  exact .inl ⟨i,t,rfl,e⟩
 | .inr x,v,h=>by
  obtain ⟨t,e⟩:=Value.isStrOf_shape (x:=x) (v:=v) h
  exact .inr ⟨x,t,rfl,e⟩
def JE (i:Int) (t:Tok):eX (.inl i) (.int i t)=true:=by simp [eX,Value.isInt]
def JF (x:Str) (t:Tok):eX (.inr x) (.str x t)=true:=by simp [eX,Value.isStrOf]
def JG (a b:Int):decide ((Sum.inl a:Key)=Sum.inl b)=(a==b):=by
 by_cases e:a=b
 ·subst e;simp
 ·have h:¬(Sum.inl a:Key)=Sum.inl b:=λq=>e (Sum.inl.inj q)
  rw [jC h]
  exact (beq_eq_false_iff_ne.mpr e).symm
def JH (a b:Str):decide ((Sum.inr a:Key)=Sum.inr b)=decide (a=b):=by
 by_cases e:a=b
 ·subst e;simp
 ·have h:¬(Sum.inr a:Key)=Sum.inr b:=λq=>e (Sum.inr.inj q)
  rw [jC h,jC e]
def JI (a:Int) (b:Str):decide ((Sum.inl a:Key)=Sum.inr b)=false:=jC (λq=>nomatch q)
def JJ (a:Str) (b:Int):decide ((Sum.inr a:Key)=Sum.inl b)=false:=jC (λq=>nomatch q)
def aY (prog:Program) (w:World):PySem.KeyKind prog w Key where
 is:=eX
 hash:=Cn w
 inj:=λv a b ha hb=>by
  rcases iF ha with ⟨i,t,rfl,rfl⟩|⟨x,t,rfl,rfl⟩
  ·rcases iF hb with ⟨j,u,rfl,e⟩|⟨y,u,rfl,e⟩
   ·injection e with e1 _;rw [e1]
   ·exact nomatch e
  ·rcases iF hb with ⟨j,u,rfl,e⟩|⟨y,u,rfl,e⟩
   ·exact nomatch e
   ·injection e with e1 _;rw [e1]
 byValue:=λk v h=>by
  rcases iF h with ⟨i,t,rfl,rfl⟩|⟨x,t,rfl,rfl⟩<;>rfl
 pyHash:=λhv h=>by
  rcases iF hv with ⟨i,t,rfl,rfl⟩|⟨x,t,rfl,rfl⟩
  ·exact wpAny_pyHash_int h
  ·exact wpAny_pyHash_str h
 eqBool:=λhu hv h=>by
  rcases iF hu with ⟨i,t,rfl,rfl⟩|⟨x,t,rfl,rfl⟩
  ·rcases iF hv with ⟨j,u,rfl,rfl⟩|⟨y,u,rfl,rfl⟩
   ·rw [JG] at h;exact wpAny_eqBool_int h
   ·rw [JI] at h;exact SeqAt.EqAt.int_str i t y u _ _ _ _ h
  ·rcases iF hv with ⟨j,u,rfl,rfl⟩|⟨y,u,rfl,rfl⟩
   ·rw [JJ] at h;exact SeqAt.EqAt.str_int x t j u _ _ _ _ h
   ·rw [JH] at h;exact wpAny_eqBool_str h
 «strs» := λk x t v h=>by
  rcases iF h with ⟨i,u,rfl,e⟩|⟨y,u,rfl,e⟩
  ·exact nomatch e
  ·injection e with e1 _
   subst e1
   cases v<;>rfl
def JK (prog:Program) (w:World) (i:Int) (t:Tok):(aY prog w).is (.inl i) (.int i t)=true:=JE i t
def JL (prog:Program) (w:World) (x:Str) (t:Tok):(aY prog w).is (.inr x) (.str x t)=true:=JF x t
inductive V where
 | non|bl (b:Bool)|int (i:Int)|str (x:Str)|byt (b:Array UInt8)|flt (b:UInt64)|ref (a:Addr)|ty (n:String)
 deriving DecidableEq
def RelV:V->Value->Prop
 | .non,u=>u=Value.none
 | .bl b,u=>u=Value.bool b
 | .int i,u=>∃t,u=Value.int i t
 | .str x,u=>∃t,u=Value.str x t
 | .byt b,u=>∃t,u=Value.bytes b t
 | .flt b,u=>∃t,u=Value.float b t
 | .ref a,u=>u=Value.ref a
 | .ty n,u=>u=Value.type n
abbrev Vals:List V->List Value->Prop:=Paired RelV
def Vals.length {xs:List V}{us:Af}(r:Vals xs us):xs.length=us.length:=Paired.length r
theorem Vals.get:∀{xs:List V}{us:Af}{i:Nat}{x:V},Vals xs us->xs[i]?=some x->∃u,us[i]?=some u/\RelV x u
 | _,_,_,_,.nil,e=>by simp at e
 | _,_,0,_,.cons r _,e=>by simp at e;subst e;exact ⟨_,rfl,r⟩
 | _,_,i+1,x,.cons _ t,e=>by
  obtain ⟨u,h1,h2⟩:=Vals.get (i:=i) (x:=x) t (by simpa using e)
  exact ⟨u,by simpa using h1,h2⟩
theorem Vals.set {x:V}{u:Value}(r:RelV x u):∀{xs:List V}{us:Af}(i:Nat),Vals xs us->Vals (xs.set i x) (us.set i u)
 | _,_,_,.nil=>.nil
 | _,_,0,.cons _ t=>.cons r t
 | _,_,i+1,.cons q t=>.cons q (Vals.set r i t)
theorem Vals.append:∀{xs ys:List V}{us ws:Af},Vals xs us->Vals ys ws->Vals (xs++ys) (us++ws)
 | _,_,_,_,.nil,s=>s
 | _,_,_,_,.cons r t,s=>.cons r (Vals.append t s)
theorem Vals.take:∀{xs:List V}{us:Af}(n:Nat),Vals xs us->Vals (xs.take n) (us.take n)
 | _,_,0,_=>.nil
 | _,_,_+1,.nil=>.nil
 | _,_,n+1,.cons r t=>.cons r (Vals.take n t)
theorem Vals.drop:∀{xs:List V}{us:Af}(n:Nat),Vals xs us->Vals (xs.drop n) (us.drop n)
 | _,_,0,r=>r
 | _,_,_+1,.nil=>.nil
 | _,_,n+1,.cons _ t=>Vals.drop n t
def cE:Option V->Option Value->Prop
 | some v,some u=>RelV v u
 | none,none=>True
 | _,_=>False
def KV {κ:Type}:List (κ×V)->List (κ×Value)->Prop:=Paired λ(p:κ×V) (q:κ×Value)=>p.1=q.1/\RelV p.2 q.2
def kV:Key->V
 | .inl i=>.int i
 | .inr x=>.str x
inductive HO where
 | lst (xs:List V)
 | tup (xs:List V)
 | dK (kvs:List (Key×V))|dT (kvs:List (List Key×V))
 | set (S:Int->Bool) (n:Nat)
 | ins (C dx:Addr) (fs:List (Str×V))
 | own (x:Addr)
 | xd (fs:List (Str×V))
 | met (f x:Addr)
 | rng (lo hi:Int)
 | frz (o:Obj) (u:HO)
 | tbl (ps:Array Value)
 | ext (φ:Program->World->Heap->Prop)
abbrev Hp:=Addr->Option HO
def upd (H:Hp) (a:Addr) (o:HO):Hp:=λb=>if b=a then some o else H b
def jh {H:Hp}{a:Addr}{o:HO}:upd H a o a=some o:=by unfold upd;rw [zF rfl]
def yE {H:Hp}{a b:Addr}{o:HO}(h:b≠a):upd H a o b=H b:=by unfold upd;rw [zR h]
def JM {H:Hp}{a b:Addr}{o u:HO}(h:H a=some o) (h':H b=some u) (d:o≠u):a≠b:=by
 intro e;subst e;rw [h] at h';exact d (Option.some.inj h')
def iG {H:Hp}{a b:Addr}{o:HO}(h:H a=some o) (h':H b=none):a≠b:=by
 intro e;subst e;rw [h] at h';cases h'
section
variable (P:Program) (w:World)
def aQ (H:Hp) (h:Heap) (a:Addr):HO->Prop
 | .lst xs=>xs.length<=sizeLine/\∃(its:Af) (n:Nat),Vals xs its/\h.get? a=some { cls:=.type "list", data:=.seq its.toArray n }
 | .tup xs=>xs.length<=sizeLine/\∃its:Af,Vals xs its/\IsTup h a its.toArray
 | .dK kvs=>kvs.length<=sizeLine/\(a==sysModules)=false/\∃vs,KV kvs vs/\h.DictOf (aY P w) a vs
 | .dT kvs=>kvs.length<=sizeLine/\(a==sysModules)=false/\∃xs:List (List Key×Addr×Value),
   Paired (λ(p:List Key×V) (q:List Key×Addr×Value)=>p.1=q.1/\H q.2.1=some (.tup (p.1.map kV))/\RelV p.2 q.2.2) kvs xs /\
   ∃o es ep,h.get? a=some o/\o.ExactDict/\o.data=.dict es ep/\es.toList=xs.map (entryOfKey (tupleKind (aY P w)))/\(xs.map (·.1)).Nodup
 | .set S n=>h.SetOf (intKind P w) a S n
 | .ins C dx fs=>H dx=some (.own a)/\fs.length<=1000/\dx≠a/\h.get? a=some (PySem.W.instObj C dx) /\
   ∃mA,h.Ns1 dx mA/\(∀f,cE (fs.lookup f) (mA f))/\PySem.Within mA (fs.map (·.1))
 | .own _=>∃o,h.get? a=some o
 | .xd fs=>∃mA,h.Ns1 a mA/\∀f,cE (fs.lookup f) (mA f)
 | .rng lo hi=>∃t u v,h.get? a=some { cls:=.type "range", data:=.fields #[.int lo t,.int hi u,.int 1 v] }
 | .frz o u=>h.get? a=some o/\aQ H h a u
 | .tbl ps=>h.get? a=some { cls:=.none,data:=.fields ps }
 | .met f x=>h.get? a=some (PySem.W.methodObj (.ref f) (.ref x))
 | .ext φ=>φ P w h/\(∃o,h.get? a=some o)/\∀h1 h2:Heap,φ P w h1->(∀o,h1.get? a=some o->h2.get? a=some o)->φ P w h2
def cj (H:Hp) (h:Heap):Prop:=∀a o,H a=some o->aQ P w H h a o
end
section
variable {P:Program}{w:World}{H H':Hp}{h h':Heap}{a:Addr}{o:HO}
def aQ.lt (x:aQ P w H h a o):a<h.objs.size:=by
 cases o with
 | lst xs=>obtain ⟨_,_,_,_,e⟩:=x;exact yF e
 | tup xs=>obtain ⟨_,_,_,p⟩:=x;exact p.lt
 | dK kvs=>obtain ⟨_,_,_,_,o,_,_,e,_⟩:=x;exact yF e
 | dT kvs=>obtain ⟨_,_,_,_,o,_,_,e,_⟩:=x;exact yF e
 | set S n=>obtain ⟨o,_,_,_,e,_⟩:=x;exact yF e
 | ins C dx fs=>obtain ⟨_,_,_,e,_⟩:=x;exact yF e
 | own y=>obtain ⟨_,e⟩:=x;exact yF e
 | xd fs=>obtain ⟨_,⟨_,_,_,e,_⟩,_⟩:=x;exact yF e
 | rng lo hi=>obtain ⟨_,_,_,e⟩:=x;exact yF e
 | frz ob u=>obtain ⟨e,_⟩:=x;exact yF e
 | tbl ps=>exact yF (show h.get? a=some _ from x)
 | met f y=>exact yF (show h.get? a=some _ from x)
 | ext φ=>obtain ⟨_,⟨_,e⟩,_⟩:=x;exact yF e
theorem Paired.mapP {α β:Type}{F G:α->β->Prop}:∀{aG:List α}{aH:List β},Paired F aG aH->(∀a b,F a b->G a b)->Paired G aG aH
 | _,_,.nil,_=>.nil
 | _,_,.cons r t,f=>.cons (f _ _ r) (Paired.mapP t f)
def aQ.stay (x:aQ P w H h a o) (k:∀b u,(b=a\/H b=some (.own a))->h.get? b=some u->h'.get? b=some u)
  (ho:∀b,H b=some (.own a)->H' b=some (.own a)) (ht:∀b xs,H b=some (.tup xs)->H' b=some (.tup xs)):aQ P w H' h' a o:=by
 induction o with
 | lst xs=>obtain ⟨z,its,n,r,e⟩:=x;exact ⟨z,its,n,r,k _ _ (.inl rfl) e⟩
 | tup xs=>obtain ⟨z,its,r,ob,e,c⟩:=x;exact ⟨z,its,r,ob,k _ _ (.inl rfl) e,c⟩
 | dK kvs=>obtain ⟨z,y,vs,r,ob,es,ep,e,c⟩:=x;exact ⟨z,y,vs,r,ob,es,ep,k _ _ (.inl rfl) e,c⟩
 | dT kvs =>
  obtain ⟨z,y,xs,r,ob,es,ep,e,c⟩:=x
  exact ⟨z,y,xs,Paired.mapP r λp q z=>⟨z.1,ht _ _ z.2.1,z.2.2⟩,ob,es,ep,k _ _ (.inl rfl) e,c⟩
 | set S n=>obtain ⟨ob,es,ep,t,e,c⟩:=x;exact ⟨ob,es,ep,t,k _ _ (.inl rfl) e,c⟩
 | ins C dx fs =>
  obtain ⟨d,z,ne,e,mA,⟨od,es,ep,e2,c⟩,r⟩:=x
  exact ⟨ho _ d,z,ne,k _ _ (.inl rfl) e,mA,⟨od,es,ep,k _ _ (.inr d) e2,c⟩,r⟩
 | own y=>obtain ⟨ob,e⟩:=x;exact ⟨ob,k _ _ (.inl rfl) e⟩
 | xd fs=>obtain ⟨mA,⟨od,es,ep,e,c⟩,r⟩:=x;exact ⟨mA,⟨od,es,ep,k _ _ (.inl rfl) e,c⟩,r⟩
 | rng lo hi=>obtain ⟨t,u,v,e⟩:=x;exact ⟨t,u,v,k _ _ (.inl rfl) e⟩
 | frz ob u ih=>obtain ⟨e,q⟩:=x;exact ⟨k _ _ (.inl rfl) e,ih q⟩
 | tbl ps =>
  have e:h.get? a=some { cls:=.none,data:=.fields ps }:=x
  show h'.get? a=some { cls:=.none,data:=.fields ps }
  exact k a _ (.inl rfl) e
 | met f y =>
  have e:h.get? a=some (PySem.W.methodObj (.ref f) (.ref y)):=x
  show h'.get? a=some (PySem.W.methodObj (.ref f) (.ref y))
  exact k a _ (.inl rfl) e
 | ext φ=>obtain ⟨p,⟨o,e⟩,st⟩:=x;exact ⟨st _ _ p λo q=>k _ _ (.inl rfl) q,⟨o,k _ _ (.inl rfl) e⟩,st⟩
def cj.lt (x:cj P w H h) (e:H a=some o):a<h.objs.size:=(x a o e).lt
def cj.fresh (x:cj P w H h) (e:h.objs.size<=a):H a=none:=by
 cases q:H a with
 | none=>rfl
 | some u=>exact absurd (jW (x.lt q) e) (Nat.lt_irrefl _)
def cj.kept (x:cj P w H h) (k:∀b u,h.get? b=some u->h'.get? b=some u):cj P w H h':=λa o e =>
 (x a o e).stay (λb u _ q=>k b u q) (λ_ q=>q) λ_ _ q=>q
def cj.laid (x:cj P w H h) (k:∀b u,h.get? b=some u->h'.get? b=some u) (hp:h.objs.size<=a) (new:aQ P w (upd H a o) h' a o):cj P w (upd H a o) h':=λb u e=>by
 have hn:=x.fresh hp
 by_cases hb:b=a
 ·subst hb;rw [jh] at e;cases e;exact new
 ·rw [yE hb] at e
  exact (x b u e).stay (λc v _ q=>k c v q) (λc q=>by rw [yE (iG q hn)];exact q) λc xs q=>by rw [yE (iG q hn)];exact q
end
def Rd (H:Hp) (a:Addr) (u:HO):Prop:=H a=some u\/∃o,H a=some (.frz o u)
def Rd.ok {P:Program}{w:World}{H:Hp}{h:Heap}{a:Addr}{u:HO}(r:Rd H a u) (x:cj P w H h):aQ P w H h a u:=by
 rcases r with r|⟨o,r⟩
 ·exact x a u r
 ·obtain ⟨_,q⟩:=x a _ r
  exact q
def pz:Option HO->Prop
 | some (.lst _)=>True
 | some (.dK _)=>True
 | some (.dT _)=>True
 | some (.set _ _)=>True
 | some (.ins _ _ _)=>True
 | some (.ext _)=>True
 | _=>False
section
variable {P:Program}{w:World}{H:Hp}{h h':Heap}{x e:Addr}{o':HO}
def cj.write (ok:cj P w H h) (mu:pz (H x)) (he:e=x\/H e=some (.own x)) (k:∀b u,b≠e->h.get? b=some u->h'.get? b=some u) (nV:∃u,h'.get? e=some u)
  (new:aQ P w (upd H x o') h' x o'):cj P w (upd H x o') h':=λb u q=>by
 have uY:∀c y,H c=some (.own y)->c≠x:=λc y r z=>by subst z;rw [r] at mu;exact mu
 have Co:∀c xs,H c=some (.tup xs)->c≠x:=λc xs r z=>by subst z;rw [r] at mu;exact mu
 by_cases hb:b=x
 ·subst hb;rw [jh] at q;cases q;exact new
 ·rw [yE hb] at q
  by_cases hbe:b=e
  ·have q':H b=some (.own x):=by
    rcases he with z|z
    ·exact absurd (hbe.trans z) hb
    ·rw [hbe];exact z
   rw [q] at q';cases q'
   obtain ⟨v,hv⟩:=nV
   exact ⟨v,by rw [hbe];exact hv⟩
  ·refine (ok b u q).stay (λc v hc r=>k c v ?_ r) (λc r=>by rw [yE (uY c b r)];exact r) λc xs r=>by rw [yE (Co c xs r)];exact r
   rcases hc with rfl|hc
   ·exact hbe
   ·rintro rfl
    rcases he with z|z
    ·exact uY c b hc z
    ·rw [hc] at z;cases z;exact hb rfl
end
structure Un (fs ex:Ae) (H H':Hp) (h h':Heap):Prop where
 keep:∀b o,h.get? b=some o->H b=none->b∉fs->b∉ex->h'.get? b=some o
 slot:∀b o,h.get? b=some o->H b=none->b∈fs->b∉ex->∃sl,h'.get? b=some { o with slots:=sl }
 free:∀b o,h.get? b=some o->H b=none->b∉ex->H' b=none
 there:∀b o,h.get? b=some o->b∉ex->∃o',h'.get? b=some o'
 tups:∀b xs,H b=some (.tup xs)->H' b=some (.tup xs)
 frzs:∀b o u,H b=some (.frz o u)->H' b=some (.frz o u)
 tbls:∀b ps,H b=some (.tbl ps)->∃more,H' b=some (.tbl (ps++more))
section
variable {fs JN ex We:Ae}{H H1 H2:Hp}{h h1 h2 h':Heap}{a x e:Addr}{o:HO}
def Un.any (u:Un fs ex H H1 h h1) {b:Addr}{ob:Obj}(q:h.get? b=some ob) (n:H b=none) (hx:b∉ex):∃sl,h1.get? b=some { ob with slots:=sl }:=by
 by_cases hb:b∈fs
 ·exact u.slot b ob q n hb hx
 ·exact ⟨ob.slots,u.keep b ob q n hb hx⟩
def Un.kept (k:∀b u,h.get? b=some u->h'.get? b=some u):Un fs ex H H h h' :=
 ⟨λb ob q _ _ _=>k b ob q,λb ob q _ _ _=>⟨ob.slots,k b ob q⟩,λ_ _ _ n _=>n,λb ob q _=>⟨ob,k b ob q⟩,λ_ _ q=>q,λ_ _ _ q=>q,λ_ ps q=>⟨#[],by rw [q];simp⟩⟩
def Un.refl:Un fs ex H H h h:=Un.kept λ_ _ q=>q
def Un.laid (k:∀b u,h.get? b=some u->h'.get? b=some u) (hp:h.objs.size<=a) (hn:H a=none):Un fs ex H (upd H a o) h h' where
 keep:=λb u q _ _ _=>k b u q
 slot:=λb u q _ _ _=>⟨u.slots,k b u q⟩
 free:=λb u q n _=>by rw [yE (jg (jW (yF q) hp))];exact n
 there:=λb u q _=>⟨u,k b u q⟩
 tups:=λb xs q=>by rw [yE (iG q hn)];exact q
 frzs:=λb u xs q=>by rw [yE (iG q hn)];exact q
 tbls:=λb ps q=>⟨#[],by rw [yE (iG q hn),q];simp⟩
def Un.write (mu:pz (H x)) (he:e=x\/H e=some (.own x)) (k:∀b u,b≠e->h.get? b=some u->h'.get? b=some u) (nV:∃u,h'.get? e=some u):Un fs ex H (upd H x o) h h':=by
 have hx:∀b,H b=none->b≠x:=λb n z=>by subst z;rw [n] at mu;exact mu
 have hb:∀b,H b=none->b≠e:=λb n z=>by
  subst z
  rcases he with r|r
  ·exact hx b n r
  ·rw [n] at r;cases r
 have hm:∀b u,H b=some u->¬pz (some u)->b≠x:=λb u q nm z=>by subst z;rw [q] at mu;exact nm mu
 refine ⟨λb u q n _ _=>k b u (hb b n) q,λb u q n _ _=>⟨u.slots,k b u (hb b n) q⟩,λb u q n _=>by rw [yE (hx b n)];exact n,λb u q _=>?_,
  λb xs q=>by rw [yE (hm b _ q λz=>z)];exact q,λb u xs q=>by rw [yE (hm b _ q λz=>z)];exact q,λb ps q=>⟨#[],by rw [yE (hm b _ q λz=>z),q];simp⟩⟩
 by_cases hbe:b=e
 ·subst hbe;exact nV
 ·exact ⟨u,k b u hbe q⟩
end
def rT (h:Heap) (H:Hp):Ae:=(List.range h.objs.size).filter λa=>(H a).isSome
def fz (h:Heap) (H:Hp):Heap:=PySem.W.hideAll h (rT h H)
def JO (h:Heap) (H:Hp):(fz h H).objs.size=h.objs.size:=PySem.W.hideAll_size _ _
def JP {h:Heap}{H:Hp}{b:Addr}{o:Obj}(e:h.get? b=some o) (n:H b=none):(fz h H).get? b=some o :=
 PySem.W.hideAll_get _ e λhm=>by
  have q:(H b).isSome=true:=(List.mem_filter.mp hm).2
  rw [n] at q;simp at q
def JQ {h:Heap}{H:Hp}{b:Addr}{o:Obj}(e:(fz h H).get? b=some o):h.get? b=some o/\H b=none:=by
 have e':h.get? b=some o:=PySem.W.of_hideAll (rT h H) e
 refine ⟨e',?_⟩
 cases q:H b with
 | none=>rfl
 | some x =>
  have hm:b∈rT h H:=List.mem_filter.mpr ⟨ki.mpr (yF e'),by simp [q]⟩
  have z:(fz h H).get? b=none:=PySem.W.hideAll_none (rT h H) hm
  rw [z] at e;cases e
def pA (g h:Heap) (L:Addr):Ac:=(List.range h.objs.size).filterMap λa=>if a=L\/(g.get? a).isSome=true then none else (h.get? a).map λo=>(a,o)
def rest (g h:Heap) (L d:Addr):Ac:=(pA g h L).filter λp=>decide (p.1≠d)
structure Mod (K:PySem.W.Frag) (mg:Ab) (base:Heap):Prop where
 kin:K.In base
 glob:base.Ns mainGlobals mg
 blt:∃mb,base.Ns builtinsNs mb/\∀x:Str,x ≠ "__name__" -> mb x=bootBuiltins x
 nolimit:base.NoLimit
structure Cx where
 prog:Program
 w:World
 K:PySem.W.Frag
 mg:Ab
 base:Heap
 A:Around
 N:Ad
 s₀:Shared
 H₀:Hp
 env:Env
 outer:List Env
 stack:List Env
 ex:Ae
 fn:Str->Bool
 calm:Bool
 pn:Ac
 xe:Aa
def dc (l:List Env):Ae:=l.filterMap (·.frame)
abbrev Cx.fs (X:Cx):Ae:=dc X.outer
def pB (sc:Scope) (x:Str):Prop:=sc.names.lookup x=some .local\/sc.names.lookup x=some .cell\/sc.names.lookup x=some .free
def Loc (sc:Scope) (x:Str):Prop:=sc.names.lookup x=some .local\/sc.names.lookup x=some .cell
def Look (env:Env) (h:Heap) (m:Ab) (x:Str) (u:Value):Prop :=
 (env.kindOf x=some .local/\m x=some u)\/((env.kindOf x=some .cell\/env.kindOf x=some .free)/\∃c,env.cells.lookup x=some c/\h.IsCell c (some u))
structure Cx.Ok (X:Cx):Prop where
 mod:Mod X.K X.mg X.base
 kind:X.env.scope.kind=.function
 glob:X.env.globals=mainGlobals
 blt:X.env.builtins=builtinsNs
 above:X.s₀.heap.objs.size<=X.env.locals
 inj:∀x y c,X.env.cells.lookup x=some c->X.env.cells.lookup y=some c->x=y
 has:∀x,(X.env.kindOf x=some .cell\/X.env.kindOf x=some .free)->∃c,X.env.cells.lookup x=some c
 cab:∀x c,X.fn x=true->X.env.cells.lookup x=some c->X.s₀.heap.objs.size<=c
 hd:X.calm=true->X.A.handled=none
 frames:X.A.frames=some X.stack
 stk:X.stack=X.outer\/(X.stack=X.env::X.outer/\X.env.frame=some X.env.locals)
 exf:∀b∈X.ex,b≠X.env.locals/\∀x c,X.env.cells.lookup x=some c->c≠b
 bs:∀b o,X.base.get? b=some o->X.s₀.heap.get? b=some o/\X.H₀ b=none
 bsz:X.base.objs.size<=X.s₀.heap.objs.size
 noex:∀b o,X.base.get? b=some o->b∉X.ex
 exfs:∀b∈X.ex,b∉X.fs
 funs:X.s₀.heap.FunFrames X.base X.outer
 frf:∀b∈X.fs,X.H₀ b=none
structure Inv (X:Cx) (pins:Ac) (U:List (Option V)) (H:Hp) (s:Shared):Prop where
 ok:X.Ok
 os:s.os=X.s₀.os
 bare:AllBare s.gens
 base:Un X.fs X.ex X.H₀ H X.s₀.heap s.heap
 loc:∃m,s.heap.Ns X.env.locals m/\∀(i:Nat) (x:Str) (v:V),X.N[i]?=some x->U[i]?=some (some v)->pB X.env.scope x->∃u,RelV v u/\Look X.env s.heap m x u
 cell:∀x c,X.env.cells.lookup x=some c->∃v,s.heap.IsCell c v
 free:H X.env.locals=none
 freeC:∀x c,X.env.cells.lookup x=some c->H c=none
 pin:∀p∈X.pn++pins,s.heap.get? p.1=some p.2/\H p.1=none/\p.1≠X.env.locals/\p.1∉X.fs/\∀v,p.2.data ≠ .cell v
 hok:cj X.prog X.w H s.heap
 len:U.length=X.N.length
section
variable {X:Cx}{pins:Ac}{U:List (Option V)}{H H':Hp}{s:Shared}{h':Heap}
def Cx.Ok.nofr (ok:X.Ok) {b:Addr}{o:Obj}(e:X.base.get? b=some o):b∉X.fs:=λhb=>by
 have:=(ok.funs.mem hb).1
 rw [e] at this;cases this
def Inv.bs (I:Inv X pins U H s):∀b o,X.base.get? b=some o->s.heap.get? b=some o/\H b=none:=λb o e =>
 ⟨I.base.keep b o (I.ok.bs b o e).1 (I.ok.bs b o e).2 (I.ok.nofr e) (I.ok.noex b o e),I.base.free b o (I.ok.bs b o e).1 (I.ok.bs b o e).2 (I.ok.noex b o e)⟩
def Inv.bk (I:Inv X pins U H s):∀b o,X.base.get? b=some o->s.heap.get? b=some o:=λb o e=>(I.bs b o e).1
def Inv.mod (I:Inv X pins U H s):Mod X.K X.mg X.base:=I.ok.mod
def Inv.kIn (I:Inv X pins U H s):X.K.In s.heap:=I.ok.mod.kin.keeps I.bk
def Inv.fr (I:Inv X pins U H s):∃m,Fr X.base X.env.locals s.heap m :=
 let ⟨m,hn,_⟩:=I.loc
 ⟨m,hn,I.bk,jr I.ok.bsz I.ok.above⟩
def Inv.lt (I:Inv X pins U H s):X.env.locals<s.heap.objs.size:=let ⟨_,hn,_⟩:=I.loc;hn.lt
def Inv.sz (I:Inv X pins U H s):X.s₀.heap.objs.size<=s.heap.objs.size:=jr I.ok.above (Nat.le_of_lt I.lt)
def Inv.nofs (I:Inv X pins U H s) {a:Addr}(h:s.heap.objs.size<=a):a∉X.fs:=λhb=>by
 obtain ⟨_,o,ho,_⟩:=I.ok.funs.mem hb
 exact absurd (jW (yF ho) (jr I.sz h)) (Nat.lt_irrefl _)
def Inv.cne (I:Inv X pins U H s):∀x c,X.env.cells.lookup x=some c->c≠X.env.locals:=λx c e z=>by
 obtain ⟨v,o,ho,hd⟩:=I.cell x c e
 obtain ⟨m,⟨o',es,ep,ho',gz,_⟩,_⟩:=I.loc
 rw [z,ho'] at ho;cases ho;rw [gz] at hd;cases hd
def Inv.funs (I:Inv X pins U H s):s.heap.FunFrames X.base X.outer:=by
 have all:∀(l:List Env),(∀b∈dc l,b∈X.fs)->X.s₀.heap.FunFrames X.base l->s.heap.FunFrames X.base l:=by
  intro l
  induction l with
  | nil=>intro _ _;trivial
  | cons env r ih =>
   intro hs hl
   obtain ⟨hk,⟨L,o,hf,hn,ho,hd⟩,hr⟩:=hl
   have hL:L∈X.fs:=hs L (by unfold dc;rw [List.filterMap_cons,hf];exact yO)
   obtain ⟨sl,e⟩:=I.base.slot L o ho (I.ok.frf L hL) hL λz=>I.ok.exfs L z hL
   exact ⟨hk,⟨L,_,hf,hn,e,hd⟩,ih (λb hb=>hs b (by unfold dc;rw [List.filterMap_cons,hf];exact yX _ hb)) hr⟩
 exact all X.outer (λ_ hb=>hb) I.ok.funs
def Inv.stack (I:Inv X pins U H s):s.heap.FunFrames X.base X.stack:=by
 rcases I.ok.stk with e|⟨e,hf⟩
 ·rw [e];exact I.funs
 ·rw [e]
  obtain ⟨m,hn,_⟩:=I.loc
  refine .cons (by rw [I.ok.kind];decide) hf hn ?_ I.funs
  exact Heap.get?_none_of_le (jr I.ok.bsz I.ok.above)
def Inv.stkSub (I:Inv X pins U H s):∀b∈dc X.stack,b∈X.env.locals::X.fs:=λb hb=>by
 rcases I.ok.stk with e|⟨e,hf⟩
 ·rw [e] at hb;exact yX _ hb
 ·rw [e] at hb
  unfold dc at hb
  rw [List.filterMap_cons,hf] at hb
  exact hb
def Inv.stkFree (I:Inv X pins U H s):∀b∈dc X.stack,H b=none:=λb hb=>by
 rcases yz.mp (I.stkSub b hb) with e|hb
 ·rw [e];exact I.free
 ·obtain ⟨_,o,ho,_⟩:=I.ok.funs.mem hb
  exact I.base.free b o ho (I.ok.frf b hb) λz=>I.ok.exfs b z hb
def Inv.step {g':Array GenState}{t':Nat}{d':Drawn}{ch:Ae}(I:Inv X pins U H s)
  (iH:∀b∈ch,(b∈X.ex\/X.s₀.heap.objs.size<=b)/\b≠X.env.locals/\(∀x c,X.env.cells.lookup x=some c->c≠b)/\∀p∈X.pn++pins,p.1≠b)
  (keep:∀b o,b≠X.env.locals->b∉X.fs->b∉ch->s.heap.get? b=some o->H b=none->h'.get? b=some o)
  (slot:∀b o,b≠X.env.locals->b∈X.fs->b∉ch->s.heap.get? b=some o->H b=none->∃sl,h'.get? b=some { o with slots:=sl }) (free:∀b o,b∉ch->s.heap.get? b=some o->H b=none->H' b=none)
  (there:∀b o,b∉ch->s.heap.get? b=some o->∃o',h'.get? b=some o')
  (tups:∀b xs,H b=some (.tup xs)->H' b=some (.tup xs)) (frzs:∀b o u,H b=some (.frz o u)->H' b=some (.frz o u)) (tbls:∀b ps,H b=some (.tbl ps)->∃more,H' b=some (.tbl (ps++more)))
  (ns:∀m,s.heap.Ns X.env.locals m->h'.Ns X.env.locals m) (hok:cj X.prog X.w H' h') (hg:AllBare g') :
  Inv X pins U H' { s with heap:=h',gens:=g',drawn:=d',toks:=t' }:=by
 have Cp:∀b o,X.s₀.heap.get? b=some o->b≠X.env.locals:=λb o e=>jg (jW (yF e) I.ok.above)
 have iI:∀b o,X.s₀.heap.get? b=some o->b∉X.ex->b∉ch:=λb o e hx hb=>by
  rcases (iH b hb).1 with z|z
  ·exact hx z
  ·exact absurd (jW (yF e) z) (Nat.lt_irrefl _)
 have cellK:∀x c,X.env.cells.lookup x=some c->∀v,s.heap.IsCell c v->h'.IsCell c v:=λx c e v ⟨o,ho,hd⟩=>by
  have gA:c∉ch:=λz=>(iH c z).2.2.1 x c e rfl
  by_cases hc:c∈X.fs
  ·obtain ⟨sl,q⟩:=slot c o (I.cne x c e) hc gA ho (I.freeC x c e)
   exact ⟨_,q,hd⟩
  ·exact ⟨o,keep c o (I.cne x c e) hc gA ho (I.freeC x c e),hd⟩
 refine ⟨I.ok,I.os,hg,⟨λb o e n hb hx=>?_,λb o e n hb hx=>?_,λb o e n hx=>?_,λb o e hx=>?_,λb xs e=>tups b xs (I.base.tups b xs e),λb o xs e=>frzs b o xs (I.base.frzs b o xs e),λb ps e=>?_⟩,?_,λx c e=>?_,?_,λx c e=>?_,λp hp=>?_,hok,I.len⟩
 ·exact keep b o (Cp b o e) hb (iI b o e hx) (I.base.keep b o e n hb hx) (I.base.free b o e n hx)
 ·obtain ⟨sl,e1⟩:=I.base.slot b o e n hb hx
  obtain ⟨Cq,e2⟩:=slot b _ (Cp b o e) hb (iI b o e hx) e1 (I.base.free b o e n hx)
  exact ⟨Cq,e2⟩
 ·obtain ⟨o',e1⟩:=I.base.there b o e hx
  exact free b o' (iI b o e hx) e1 (I.base.free b o e n hx)
 ·obtain ⟨o',e1⟩:=I.base.there b o e hx
  exact there b o' (iI b o e hx) e1
 ·obtain ⟨m1,e1⟩:=I.base.tbls b ps e
  obtain ⟨m2,e2⟩:=tbls b _ e1
  exact ⟨m1++m2,by rw [e2,Array.append_assoc]⟩
 ·obtain ⟨m,hn,hl⟩:=I.loc
  refine ⟨m,ns m hn,λi x v e1 e2 e3=>?_⟩
  obtain ⟨u,r,l⟩:=hl i x v e1 e2 e3
  refine ⟨u,r,?_⟩
  rcases l with l|⟨k,c,e,z⟩
  ·exact .inl l
  ·exact .inr ⟨k,c,e,cellK x c e _ z⟩
 ·obtain ⟨v,z⟩:=I.cell x c e
  exact ⟨v,cellK x c e v z⟩
 ·obtain ⟨m,⟨o,_,_,ho,_⟩,_⟩:=I.loc
  exact free _ o (λz=>(iH _ z).2.1 rfl) ho I.free
 ·obtain ⟨v,o,ho,hd⟩:=I.cell x c e
  exact free c o (λz=>(iH c z).2.2.1 x c e rfl) ho (I.freeC x c e)
 ·obtain ⟨e,n,ne,nf,d⟩:=I.pin p hp
  have gA:p.1∉ch:=λz=>(iH p.1 z).2.2.2 p hp rfl
  exact ⟨keep p.1 p.2 ne nf gA e n,free p.1 p.2 gA e n,ne,nf,d⟩
def Inv.un {t':Nat}(I:Inv X pins U H s) (u:Un X.fs [] H H' s.heap h') (hok:cj X.prog X.w H' h'):Inv X pins U H' { s with heap:=h',toks:=t' }:=by
 obtain ⟨m,⟨o,es,ep,ho,r⟩,_⟩:=id I.loc
 obtain ⟨sl,hL⟩:=u.any ho I.free (by simp)
 exact I.step (g':=s.gens) (d':=s.drawn) (ch:=[]) (λ_ z=>nomatch z) (λb o _ hb _ e n=>u.keep b o e n hb (by simp)) (λb o _ hb _ e n=>u.slot b o e n hb (by simp)) (λb o _ e n=>u.free b o e n (by simp)) (λb o _ e=>u.there b o e (by simp)) u.tups u.frzs u.tbls (λm' hm=>by
  obtain ⟨o',vv,vw,ho',r'⟩:=hm
  rw [ho] at ho';cases ho'
  exact ⟨_,vv,vw,hL,r'⟩) hok I.bare
def Inv.call {g':Array GenState}{t':Nat}{d':Drawn}{ch:Ae}(I:Inv X pins U H s) (u:Un (dc X.stack) ch H H' s.heap h') (hok:cj X.prog X.w H' h') (hg:AllBare g')
  (iH:∀b∈ch,(b∈X.ex\/X.s₀.heap.objs.size<=b)/\b≠X.env.locals/\(∀x c,X.env.cells.lookup x=some c->c≠b)/\∀p∈X.pn++pins,p.1≠b) :
  Inv X pins U H' { s with heap:=h',gens:=g',drawn:=d',toks:=t' }:=by
 obtain ⟨m,⟨o,es,ep,ho,r⟩,_⟩:=id I.loc
 obtain ⟨sl,hL⟩:=u.any ho I.free λz=>(iH _ z).2.1 rfl
 exact I.step (ch:=ch) iH (λb o hL hb hc e n=>u.keep b o e n (λz=>(yz.mp (I.stkSub b z)).elim hL hb) hc) (λb o _ _ hc e n=>u.any e n hc) (λb o hc e n=>u.free b o e n hc) (λb o hc e=>u.there b o e hc) u.tups u.frzs u.tbls (λm' hm=>by
  obtain ⟨o',vv,vw,ho',r'⟩:=hm
  rw [ho] at ho';cases ho'
  exact ⟨_,vv,vw,hL,r'⟩) hok hg
def Inv.turned {t':Nat}{it:Addr}(I:Inv X pins U H s) (k:∀b o,b≠it->s.heap.get? b=some o->h'.get? b=some o) (hn:H it=none) (hL:it≠X.env.locals)
  (h1:it∈X.ex\/X.s₀.heap.objs.size<=it) (h2:∀x c,X.env.cells.lookup x=some c->c≠it) (h3:∀p∈X.pn++pins,p.1≠it):Inv X pins U H { s with heap:=h',toks:=t' }:=by
 have Cr:∀b u,H b=some u->b≠it:=λb u e z=>by rw [z,hn] at e;cases e
 refine I.step (g':=s.gens) (d':=s.drawn) (ch:=[it]) (λb hb=>?_) (λb o _ _ hc e _=>k b o (λz=>hc (by simp [z])) e) (λb o _ _ hc e _=>⟨o.slots,k b o (λz=>hc (by simp [z])) e⟩) (λ_ _ _ _ n=>n)
  (λb o hc e=>⟨o,k b o (λz=>hc (by simp [z])) e⟩) (λ_ _ e=>e) (λ_ _ _ e=>e) (λb ps e=>⟨#[],by rw [e];simp⟩) (λm hm=>?_) (λb u e=>?_) I.bare
 ·have e:b=it:=by simpa using hb
  subst e
  exact ⟨h1,hL,h2,h3⟩
 ·obtain ⟨o,es,ep,ho,r⟩:=hm
  exact ⟨o,es,ep,k _ o (ja hL) ho,r⟩
 ·refine (I.hok b u e).stay (λc v hc q=>k c v ?_ q) (λ_ q=>q) λ_ _ q=>q
  rcases hc with z|z
  ·rw [z];exact Cr b u e
  ·exact Cr c _ z
def Inv.tok (I:Inv X pins U H s) (t:Nat):Inv X pins U H { s with toks:=t }:=I.un (h':=s.heap) (t':=t) Un.refl I.hok
def Inv.kept {t':Nat}(I:Inv X pins U H s) (k:∀b u,s.heap.get? b=some u->h'.get? b=some u):Inv X pins U H { s with heap:=h',toks:=t' }:=I.un (Un.kept k) (I.hok.kept k)
def Inv.laid {a:Addr}{o:HO}{t':Nat}(I:Inv X pins U H s) (k:∀b u,s.heap.get? b=some u->h'.get? b=some u) (hp:s.heap.objs.size<=a) (new:aQ X.prog X.w (upd H a o) h' a o) :
  Inv X pins U (upd H a o) { s with heap:=h',toks:=t' }:=I.un (Un.laid k hp (I.hok.fresh hp)) (I.hok.laid k hp new)
def Inv.write {x e:Addr}{o:HO}{t':Nat}(I:Inv X pins U H s) (mu:pz (H x)) (he:e=x\/H e=some (.own x)) (k:∀b u,b≠e->s.heap.get? b=some u->h'.get? b=some u) (nV:∃u,h'.get? e=some u)
  (new:aQ X.prog X.w (upd H x o) h' x o):Inv X pins U (upd H x o) { s with heap:=h',toks:=t' }:=I.un (Un.write mu he k nV) (I.hok.write mu he k nV new)
def Inv.weak {ai:List (Option V)}(I:Inv X pins U H s) (hl:ai.length=U.length) (w:∀(i:Nat) v,ai[i]?=some (some v)->U[i]?=some (some v)):Inv X pins ai H s :=
 ⟨I.ok,I.os,I.bare,I.base,let ⟨m,hn,pD⟩:=I.loc;⟨m,hn,λi x v e1 e2 e3=>pD i x v e1 (w i v e2) e3⟩,I.cell,I.free,I.freeC,I.pin,I.hok,hl.trans I.len⟩
def Inv.pins_of {pins':Ac}(I:Inv X pins U H s) (h:∀p∈pins',s.heap.get? p.1=some p.2/\H p.1=none/\p.1≠X.env.locals/\p.1∉X.fs/\∀v,p.2.data ≠ .cell v):Inv X pins' U H s :=
 ⟨I.ok,I.os,I.bare,I.base,I.loc,I.cell,I.free,I.freeC,λp hp=>(jG.mp hp).elim (λz=>I.pin p (wF _ z)) (h p),I.hok,I.len⟩
def Cs {N:Ad}(hN:N.Nodup) {i j:Nat}{x:Str}(a:N[i]?=some x) (b:N[j]?=some x):i=j:=by
 obtain ⟨h1,e1⟩:=yl.mp a
 obtain ⟨h2,e2⟩:=yl.mp b
 exact (List.getElem_inj hN).mp (e1.trans e2.symm)
def JR {M:Model}{A:Around}{E:Aa}{i:Nat}{x:Str}{v:V}{u:Value}{Q:Unit->Shared->Prop}(I:Inv X pins U H s) (hN:X.N.Nodup) (hi:X.N[i]?=some x) (hx:Loc X.env.scope x) (r:RelV v u)
  (h:∀s',Inv X pins (U.set i (some v)) H s'->(∃a,Heap.SameBut a s.heap s'.heap/\(a=X.env.locals\/X.env.cells.lookup x=some a))->Q () s') (hf:X.fn x=true\/X.env.scope.names.lookup x=some .local:=by first|exact .inl rfl|exact .inr rfl|assumption):wpAny M A (storeName X.env x u) Q E s:=by
 obtain ⟨m,hn,hl⟩:=id I.loc
 have Ct:(X.env.scope.kind == .class||(X.env.scope.kind == .module&&X.env.locals != X.env.globals))=false:=by rw [I.ok.kind];rfl
 have aI:i<U.length:=by rw [I.len];exact (yl.mp hi).1
 have cne:=I.cne
 have tracked:∀{a:Addr} {h':Heap},(∃o,s.heap.get? a=some o/\H a=none)->Heap.SameBut a s.heap h'->cj X.prog X.w H h':=λ{a h'} ha hs b ob e=>by
  obtain ⟨_,_,kj⟩:=ha
  refine (I.hok b ob e).stay (λc w' hc q=>(hs.2 c ?_).trans q) (λ_ q=>q) λ_ _ q=>q
  rintro rfl
  rcases hc with rfl|hc
  ·rw [kj] at e;cases e
  ·rw [kj] at hc;cases hc
 rcases hx with hk|hk
 ·refine wpAny_storeName_local hk hn (λh' pE hs=>?_) Ct
  obtain ⟨oL,_,_,JS,_⟩:=id hn
  refine h _ ⟨I.ok,I.os,I.bare,⟨λb o e n hb hx=>?_,λb o e n hb hx=>?_,I.base.free,λb o e hx=>?_,I.base.tups,I.base.frzs,I.base.tbls⟩,⟨_,pE,λj y v' e1 e2 e3=>?_⟩,λy c e=>?_,I.free,I.freeC,λp hp=>?_,tracked ⟨oL,JS,I.free⟩ hs,by simpa using I.len⟩ ⟨_,hs,.inl rfl⟩
  ·exact (hs.2 b (jg (jW (yF e) I.ok.above))).trans (I.base.keep b o e n hb hx)
  ·obtain ⟨sl,e1⟩:=I.base.slot b o e n hb hx
   exact ⟨sl,(hs.2 b (jg (jW (yF e) I.ok.above))).trans e1⟩
  ·obtain ⟨o',e1⟩:=I.base.there b o e hx
   exact ⟨o',(hs.2 b (jg (jW (yF e) I.ok.above))).trans e1⟩
  ·by_cases hj:j=i
   ·subst hj
    rw [hi] at e1;cases e1
    rw [ju aI] at e2
    cases e2
    exact ⟨u,r,.inl ⟨hk,by simp⟩⟩
   ·rw [yA (ja hj)] at e2
    obtain ⟨u',r',q⟩:=hl j y v' e1 e2 e3
    refine ⟨u',r',?_⟩
    rcases q with ⟨k,e⟩|⟨k,c,e,z⟩
    ·refine .inl ⟨k,?_⟩
     have:y≠x:=λe=>hj (Cs hN e1 (e▸hi))
     simp [this,e]
    ·exact .inr ⟨k,c,e,z.sameBut hs (cne y c e)⟩
  ·obtain ⟨w',z⟩:=I.cell y c e
   exact ⟨w',z.sameBut hs (cne y c e)⟩
  ·obtain ⟨e,n,ne,nf,d⟩:=I.pin p hp
   exact ⟨(hs.2 p.1 ne).trans e,n,ne,nf,d⟩
 ·have vx:X.fn x=true:=by
   rcases hf with z|z
   ·exact z
   ·rw [z] at hk;cases hk
  obtain ⟨c,hc⟩:=I.ok.has x (.inl hk)
  obtain ⟨w',z⟩:=I.cell x c hc
  refine wpAny_storeName_cell I.ok.kind hk hc z (λh' cX hs=>?_)
  obtain ⟨oc,Cu,Cw⟩:=id z
  refine h { s with heap:=h' } ⟨I.ok,I.os,I.bare,⟨λb o e n hb hx=>?_,λb o e n hb hx=>?_,I.base.free,λb o e hx=>?_,I.base.tups,I.base.frzs,I.base.tbls⟩,⟨m,hn.sameBut hs (ja (cne x c hc)),λj y v' e1 e2 e3=>?_⟩,λy c' e=>?_,I.free,I.freeC,λp hp=>?_,tracked ⟨oc,Cu,I.freeC x c hc⟩ hs,by simpa using I.len⟩ ⟨c,hs,.inr hc⟩
  ·exact (hs.2 b (jg (jW (yF e) (I.ok.cab x c vx hc)))).trans (I.base.keep b o e n hb hx)
  ·obtain ⟨sl,e1⟩:=I.base.slot b o e n hb hx
   exact ⟨sl,(hs.2 b (jg (jW (yF e) (I.ok.cab x c vx hc)))).trans e1⟩
  ·obtain ⟨o',e1⟩:=I.base.there b o e hx
   exact ⟨o',(hs.2 b (jg (jW (yF e) (I.ok.cab x c vx hc)))).trans e1⟩
  ·by_cases hj:j=i
   ·subst hj
    rw [hi] at e1;cases e1
    rw [ju aI] at e2
    cases e2
    exact ⟨u,r,.inr ⟨.inl hk,c,hc,cX⟩⟩
   ·rw [yA (ja hj)] at e2
    obtain ⟨u',r',q⟩:=hl j y v' e1 e2 e3
    refine ⟨u',r',?_⟩
    rcases q with q|⟨k,c',e,z'⟩
    ·exact .inl q
    ·refine .inr ⟨k,c',e,z'.sameBut hs ?_⟩
     rintro rfl
     exact hj (Cs hN e1 (I.ok.inj _ _ _ e hc▸hi))
  ·by_cases nW:c'=c
   ·subst nW;exact ⟨_,cX⟩
   ·obtain ⟨w2,z2⟩:=I.cell y c' e
    exact ⟨w2,z2.sameBut hs nW⟩
  ·obtain ⟨e,n,ne,nf,d⟩:=I.pin p hp
   refine ⟨(hs.2 p.1 ?_).trans e,n,ne,nf,d⟩
   intro q
   rw [q,Cu] at e
   have q':oc=p.2:=Option.some.inj e
   exact d w' (by rw [<-q'];exact Cw)
def rV {M:Model}{A:Around}{E:Aa}{i:Nat}{x:Str}{v:V}{u:Value}{Q:Unit->Shared->Prop}(I:Inv X pins U H s) (hN:X.N.Nodup) (hi:X.N[i]?=some x) (hx:Loc X.env.scope x) (r:RelV v u)
  (h:∀s',Inv X pins (U.set i (some v)) H s'->Q () s') (hf:X.fn x=true\/X.env.scope.names.lookup x=some .local:=by first|exact .inl rfl|exact .inr rfl|assumption):wpAny M A (storeName X.env x u) Q E s :=
 JR I hN hi hx r (λs' I' _=>h s' I') hf
def Inv.call' {s':Shared}{ch:Ae}(I:Inv X pins U H s) (ho:s'.os=s.os) (u:Un (dc X.stack) ch H H' s.heap s'.heap) (hok:cj X.prog X.w H' s'.heap) (hg:AllBare s'.gens)
  (iH:∀b∈ch,(b∈X.ex\/X.s₀.heap.objs.size<=b)/\b≠X.env.locals/\(∀x c,X.env.cells.lookup x=some c->c≠b)/\∀p∈X.pn++pins,p.1≠b):Inv X pins U H' s':=by
 obtain ⟨h',g',d',t',o'⟩:=s'
 have e:o'=s.os:=ho
 subst e
 exact I.call (g':=g') (t':=t') (d':=d') u hok hg iH
end
abbrev XK:=Value->Option Addr->Hp->Prop
abbrev St:=List (Option V)
abbrev VK:=V->Hp->Prop
abbrev TE:=St->Hp->VK->Prop
abbrev TT:=St->Hp->(Bool->Hp->Prop)->Prop
abbrev TA:=St->Hp->(List V->Hp->Prop)->Prop
structure Ends where
 nx:St->Hp->Prop
 rt:VK
 bk:St->Hp->Prop:=λ_ _=>False
 ct:St->Hp->Prop:=λ_ _=>False
abbrev TS:=Ends->St->Hp->Prop
def EP (X:Cx) (pins:Ac) (U:St) (Q:VK) (u:Value) (s':Shared):Prop:=∃v H',Inv X pins U H' s'/\RelV v u/\Q v H'
def TP (X:Cx) (pins:Ac) (U:St) (Q:Bool->Hp->Prop) (b:Bool) (s':Shared):Prop:=∃H',Inv X pins U H' s'/\Q b H'
def AP (X:Cx) (pins:Ac) (U:St) (Q:List V->Hp->Prop) (us:Af) (s':Shared):Prop:=∃vs H',Inv X pins U H' s'/\Vals vs us/\Q vs H'
def SP (X:Cx) (pins:Ac) (D:Ends) (f:Flow) (s':Shared):Prop :=
 match f with
 | .next=>∃ai H',Inv X pins ai H' s'/\D.nx ai H'
 | .brk=>∃ai H',Inv X pins ai H' s'/\D.bk ai H'
 | .cont=>∃ai H',Inv X pins ai H' s'/\D.ct ai H'
 | .ret u=>∃v ai H',Inv X pins ai H' s'/\RelV v u/\D.rt v H'
def PE (X:Cx) (e:Expr) (t:TE):Prop :=
 ∀(pins:Ac) (s:Shared) (U:St) (H:Hp) (Q:VK),Inv X pins U H s->t U H Q->wpAny (model X.prog X.w) X.A (eval e X.env) (EP X pins U Q) X.xe s
def PT (X:Cx) (e:Expr) (t:TT):Prop :=
 ∀(pins:Ac) (s:Shared) (U:St) (H:Hp) (Q:Bool->Hp->Prop),Inv X pins U H s->t U H Q->wpAny (model X.prog X.w) X.A (isTrue e X.env (eval e X.env)) (TP X pins U Q) X.xe s
def PW (X:Cx) (e:Expr) (t:TT):Prop :=
 ∀(whole:Sem Value) (pins:Ac) (s:Shared) (U:St) (H:Hp) (Q:Bool->Hp->Prop),Inv X pins U H s->t U H Q->wpAny (model X.prog X.w) X.A (isTrue e X.env whole) (TP X pins U Q) X.xe s
def PW.pt {X:Cx}{e:Expr}{t:TT}(h:PW X e t):PT X e t:=h _
def PA (X:Cx) (es:List Expr) (t:TA):Prop :=
 ∀(pos:Pos) (pins:Ac) (s:Shared) (U:St) (H:Hp) (Q:List V->Hp->Prop),Inv X pins U H s->t U H Q->wpAny (model X.prog X.w) X.A (spliced (backTo pos (starEach es X.env))) (AP X pins U Q) X.xe s
def PS (X:Cx) (st:Stmt) (t:TS):Prop :=
 ∀(pins:Ac) (s:Shared) (U:St) (H:Hp) (D:Ends),Inv X pins U H s->t D U H->wpAny (model X.prog X.w) X.A (exec st X.env) (SP X pins D) X.xe s
def de (X:Cx) (st:List Stmt) (t:TS):Prop :=
 ∀(pins:Ac) (s:Shared) (U:St) (H:Hp) (D:Ends),Inv X pins U H s->t D U H->wpAny (model X.prog X.w) X.A (execs st X.env) (SP X pins D) X.xe s
def aO {α:Type}{t:Sem α}{Q Q':α->Shared->Prop}{M:Model}{A:Around}{E:Aa}{s:Shared}(h:wpAny M A t Q E s) (hQ:∀a s,Q a s->Q' a s):wpAny M A t Q' E s:=wj h hQ λ_ _ x=>x
section
variable {X:Cx}
def Cy (i:Nat):TE:=λU H Q=>∃v,U[i]?=some (some v)/\Q v H
def tC (v:V):TE:=λ_ H Q=>Q v H
def Cz {i:Nat} {x:Str} {pos:Pos} (hN:X.N[i]?=some x) (hv:pB X.env.scope x) (hd:(x==("__debug__" : Str))=false:=by decide) (fN:(x==("__classdict__" : Str))=false:=by decide):PE X (.Name x pos) (Cy i):=by
 intro pins s U H Q I h
 obtain ⟨v,e,h⟩:=h
 obtain ⟨m,hn,hl⟩:=I.loc
 obtain ⟨u,r,l⟩:=hl i x v hN e hv
 have fin:EP X pins U Q u s:=⟨v,H,I,r,h⟩
 rcases l with ⟨hk,hm⟩|⟨hk,c,hc,d0⟩
 ·exact wpAny_Name (wpAny_loadName_local I.ok.kind hk hn hm fin) hd
 ·rcases hk with hk|hk
  ·exact wpAny_Name (wpAny_loadName_cell I.ok.kind hk hc d0 fin) hd
  ·exact wpAny_Name (wpAny_loadName_free I.ok.kind hk hc d0 fin fN) hd
def JT {i j pos}:PE X (.Constant (.int i) j pos) (tC (.int i)):=λ_ _ _ H _ I h=>wpAny_Constant_int ⟨.int i,H,I.tok _,⟨_,rfl⟩,h⟩
def JU {b j pos}:PE X (.Constant (.bool b) j pos) (tC (.bl b)):=λ_ _ _ H _ I h=>Constant_bool ⟨.bl b,H,I,rfl,h⟩
def JV {j pos}:PE X (.Constant .none j pos) (tC .non):=λ_ _ _ H _ I h=>Constant_none ⟨.non,H,I,rfl,h⟩
def JW {x j pos}:PE X (.Constant (.str x) j pos) (tC (.str x)):=λ_ _ _ H _ I h=>Calls.Constant_str ⟨.str x,H,I.tok _,⟨_,rfl⟩,h⟩
def Gl (X:Cx) (x:Str):Prop:=X.env.kindOf x=some .globalImplicit
def CA {E:Aa}{pins:Ac}{s:Shared}{U:St}{H:Hp}{x:Str}{u:Value}{pos:Pos}{Q:Aa}(I:Inv X pins U H s) (hg:Gl X x) (hm:X.mg x=some u) (h:Q u s)
  (hd:(x==("__debug__" : Str))=false:=by decide):wpAny (model X.prog X.w) X.A (eval (.Name x pos) X.env) Q E s :=
 Calls.Name_function_global I.ok.kind hg (Calls.loadGlobal_global (by rw [I.ok.glob];exact I.mod.glob.keeps I.bk) hm h) hd
def lV {E:Aa}{pins:Ac}{s:Shared}{U:St}{H:Hp}{x:Str}{u:Value}{pos:Pos}{Q:Aa}(I:Inv X pins U H s) (hg:Gl X x) (hm:X.mg x=none) (hv:bootBuiltins x=some u) (h:Q u s)
  (hn:x ≠ "__name__" := by decide) (hd:(x==("__debug__" : Str))=false:=by decide):wpAny (model X.prog X.w) X.A (eval (.Name x pos) X.env) Q E s:=by
 obtain ⟨mb,h1,h2⟩:=I.mod.blt
 exact Calls.Name_function_global I.ok.kind hg (Calls.loadGlobal_builtin (by rw [I.ok.glob];exact I.mod.glob.keeps I.bk) hm (by rw [I.ok.blt];exact h1.keeps I.bk) ((h2 x hn).trans hv) h) hd
def JX {x:Str} {v:V} {u:Value} {pos:Pos} (hg:Gl X x) (hm:X.mg x=none) (hv:bootBuiltins x=some u) (r:RelV v u) (hn:x ≠ "__name__" := by decide) (hd:(x==("__debug__" : Str))=false:=by decide):PE X (.Name x pos) (tC v) :=
 λ_ _ _ H _ I h=>lV I hg hm hv ⟨v,H,I,r,h⟩ hn hd
variable {a b:Expr}{ta tb:TE}{pos:Pos}
def tB (t:TE):TT:=λU H Q=>t U H λx H1=>∃c,x=.bl c/\Q c H1
def JY {e:Expr}{t:TE}(h:PE X e t) (he:∀whole,isTrue e X.env whole=(do let v <-whole;standAt e.pos;holding [v] (truthy v)):=by intro _;rfl):PT X e (tB t):=by
 intro pins s U H Q I hw
 refine isTrue_plain (aO (h pins s U H _ I hw) λv s1 ⟨x,H1,I1,r1,q1⟩=>?_) (he _)
 obtain ⟨d,rfl,q⟩:=q1
 cases r1
 exact kh ⟨H1,I1,q⟩
variable {tA rW:TT}{rest:List Expr}
def JZ (t u:TT):TT:=λU H Q=>t U H λc H1=>if c=true then u U H1 Q else Q false H1
def J1 (t u:TT):TT:=λU H Q=>t U H λc H1=>if c=true then Q true H1 else u U H1 Q
def J2 (t:TT):TT:=λU H Q=>t U H λc H1=>Q (!c) H1
def J3 (ha:PT X a tA):PW X (.BoolOp .And [a] pos) tA:=by
 intro wh pins s U H Q I h
 refine isTrue_and (aO (ha pins s U H Q I h) λc s1 e=>?_)
 cases c with
 | true=>exact isTrue_and_nil e
 | false=>exact e
def J4 (ha:PT X a tA):PW X (.BoolOp .Or [a] pos) tA:=by
 intro wh pins s U H Q I h
 refine isTrue_or (aO (ha pins s U H Q I h) λc s1 e=>?_)
 cases c with
 | false=>exact isTrue_or_nil e
 | true=>exact e
def J5 (ha:PT X a tA) (hb:PW X (.BoolOp .And (b::rest) pos) rW):PW X (.BoolOp .And (a::b::rest) pos) (JZ tA rW):=by
 intro wh pins s U H Q I h
 refine isTrue_and (aO (ha pins s U H _ I h) λc s1 ⟨H1,I1,q1⟩=>?_)
 cases c with
 | true=>exact hb wh pins s1 U H1 Q I1 q1
 | false=>exact ⟨H1,I1,q1⟩
def J6 (ha:PT X a tA) (hb:PW X (.BoolOp .Or (b::rest) pos) rW):PW X (.BoolOp .Or (a::b::rest) pos) (J1 tA rW):=by
 intro wh pins s U H Q I h
 refine isTrue_or (aO (ha pins s U H _ I h) λc s1 ⟨H1,I1,q1⟩=>?_)
 cases c with
 | true=>exact ⟨H1,I1,q1⟩
 | false=>exact hb wh pins s1 U H1 Q I1 q1
def J7 (ha:PT X a tA):PT X (.UnaryOp .Not a pos) (J2 tA):=by
 intro pins s U H Q I h
 exact isTrue_not (ha pins s U H (λc H1=>Q (!c) H1) I h)
def J8 (ta tb:TE):TE:=λU H Q=>ta U H λx H1=>∃c,x=.bl c/\if c=true then tb U H1 Q else Q (.bl false) H1
def J9 (ta:TE):TE:=λU H Q=>ta U H λx H1=>∃c,x=.bl c/\Q (.bl (!c)) H1
def J_ {op}{t:TE}(h:PE X a t):PE X (.BoolOp op [a] pos) t:=λpins s U H Q I hw=>BoolOp_one (h pins s U H Q I hw)
def Ka (ha:PE X a ta) (hb:PE X (.BoolOp .And (b::rest) pos) tb):PE X (.BoolOp .And (a::b::rest) pos) (J8 ta tb):=by
 intro pins s U H Q I h
 refine BoolOp_and (aO (ha pins s U H _ I h) λv s1 ⟨x,H1,I1,r1,q1⟩=>?_)
 obtain ⟨c,rfl,q1⟩:=q1
 cases r1
 refine kh ?_
 cases c with
 | true=>exact hb pins s1 U H1 Q I1 q1
 | false=>exact ⟨.bl false,H1,I1,rfl,q1⟩
def Kb (ha:PE X a ta):PE X (.UnaryOp .Not a pos) (J9 ta):=by
 intro pins s U H Q I h
 refine UnaryOp_ (aO (ha pins s U H _ I h) λv s1 ⟨x,H1,I1,r1,q1⟩=>?_)
 obtain ⟨c,rfl,q1⟩:=q1
 cases r1
 exact not_of (kh ⟨.bl (!c),H1,I1,rfl,q1⟩)
end
def aZ (K:PySem.W.Frag) (H:Hp) (a:Addr) (xs:List V):Prop :=
 Rd H a (.lst xs) \/
  ∃(o:Obj) (its:Array Value) (n:Nat),K.lookup a=some o/\o.cls=.type "list" /\ o.dict=none/\o.data=.seq its n/\its.size<=sizeLine/\Vals xs its.toList
def a5 (K:PySem.W.Frag) (H:Hp) (a:Addr) (xs:List V):Prop :=
 Rd H a (.tup xs) \/
  ∃(o:Obj) (its:Array Value) (n:Nat),K.lookup a=some o/\o.cls=.type "tuple" /\ o.data=.seq its n/\its.size<=sizeLine/\Vals xs its.toList
def CB:Value->Option V
 | .none=>some .non
 | .bool b=>some (.bl b)
 | .int i _=>some (.int i)
 | .str x _=>some (.str x)
 | .bytes b _=>some (.byt b)
 | .float b _=>some (.flt b)
 | .ref a=>some (.ref a)
 | .type n=>some (.ty n)
 | _=>none
def RelV.abs {x:V}{u:Value}(r:RelV x u):CB u=some x:=by
 cases x with
 | non=>cases r;rfl
 | bl _=>cases r;rfl
 | int _=>obtain ⟨t,rfl⟩:=r;rfl
 | str _=>obtain ⟨t,rfl⟩:=r;rfl
 | byt _=>obtain ⟨t,rfl⟩:=r;rfl
 | flt _=>obtain ⟨t,rfl⟩:=r;rfl
 | ref _=>cases r;rfl
 | ty _=>cases r;rfl
def RelV.inj {x y:V}{u:Value}(r:RelV x u) (q:RelV y u):x=y:=Option.some.inj (r.abs.symm.trans q.abs)
theorem Vals.inj:∀{xs ys:List V}{us:Af},Vals xs us->Vals ys us->xs=ys
 | _,_,_,.nil,.nil=>rfl
 | _,_,_,.cons r t,.cons r' t'=>by rw [r.inj r',Vals.inj t t']
section
variable {X:Cx}{pins:Ac}{U:St}{H:Hp}{s:Shared}{a:Addr}{xs ys:List V}
def aZ.of {K:PySem.W.Frag}(h:H a=some (.lst xs)):aZ K H a xs:=.inl (.inl h)
def a5.of {K:PySem.W.Frag}(h:H a=some (.tup xs)):a5 K H a xs:=.inl (.inl h)
theorem Inv.list (I:Inv X pins U H s) (h:aZ X.K H a xs):∃its:Af,Vals xs its/\PlainL s.heap a its.toArray/\xs.length<=sizeLine:=by
 rcases h with h|⟨o,its,n,hk,hc,hd,hs,hz,r⟩
 ·obtain ⟨z,its,n,r,e⟩:=h.ok I.hok
  exact ⟨its,r,⟨_,n,e,rfl,rfl,rfl⟩,z⟩
 ·refine ⟨its.toList,r,⟨o,n,I.kIn a o hk,hc,hd,by simpa using hs⟩,?_⟩
  have e:=r.length
  simp only [Array.length_toList] at e
  omega
def Inv.tuple (I:Inv X pins U H s) (h:a5 X.K H a xs):∃its:Af,Vals xs its/\IsTup s.heap a its.toArray/\xs.length<=sizeLine:=by
 rcases h with h|⟨o,its,n,hk,hc,hs,hz,r⟩
 ·obtain ⟨z,its,r,p⟩:=h.ok I.hok
  exact ⟨its,r,p,z⟩
 ·refine ⟨its.toList,r,⟨o,I.kIn a o hk,hc,n,by simpa using hs⟩,?_⟩
  have e:=r.length
  simp only [Array.length_toList] at e
  omega
def Inv.list_inj (I:Inv X pins U H s) (h:aZ X.K H a xs) (h':aZ X.K H a ys):xs=ys:=by
 obtain ⟨its,r,⟨o,n,e,_,_,d⟩,_⟩:=I.list h
 obtain ⟨its',r',⟨o',n',e',_,_,d'⟩,_⟩:=I.list h'
 rw [e] at e';cases e'
 rw [d] at d'
 injection d' with d1 _
 have:its=its':=by simpa using congrArg Array.toList d1
 subst this
 exact r.inj r'
def Inv.tuple_inj (I:Inv X pins U H s) (h:a5 X.K H a xs) (h':a5 X.K H a ys):xs=ys:=by
 obtain ⟨its,r,⟨o,e,_,n,d⟩,_⟩:=I.tuple h
 obtain ⟨its',r',⟨o',e',_,n',d'⟩,_⟩:=I.tuple h'
 rw [e] at e';cases e'
 rw [d] at d'
 injection d' with d1 _
 have:its=its':=by simpa using congrArg Array.toList d1
 subst this
 exact r.inj r'
end
abbrev Cx.wish (X:Cx) (E:Aa):Cx:={ X with xe:=E }
abbrev Cx.nox (X:Cx):Cx:=X.wish λ_ _=>False
def Cx.Ok.wish {X:Cx}(ok:X.Ok) (E:Aa):(X.wish E).Ok :=
 ⟨ok.mod,ok.kind,ok.glob,ok.blt,ok.above,ok.inj,ok.has,ok.cab,ok.hd,ok.frames,ok.stk,ok.exf,ok.bs,ok.bsz,ok.noex,ok.exfs,ok.funs,ok.frf⟩
def Cx.Ok.unwish {X:Cx}{E:Aa}(ok:(X.wish E).Ok):X.Ok :=
 ⟨ok.mod,ok.kind,ok.glob,ok.blt,ok.above,ok.inj,ok.has,ok.cab,ok.hd,ok.frames,ok.stk,ok.exf,ok.bs,ok.bsz,ok.noex,ok.exfs,ok.funs,ok.frf⟩
section
variable {X:Cx}{pins:Ac}{U:St}{H:Hp}{s:Shared}{E:Aa}
def Inv.wish (I:Inv X pins U H s) (E:Aa):Inv (X.wish E) pins U H s:=⟨I.ok.wish E,I.os,I.bare,I.base,I.loc,I.cell,I.free,I.freeC,I.pin,I.hok,I.len⟩
def Inv.unwish (I:Inv (X.wish E) pins U H s):Inv X pins U H s:=⟨I.ok.unwish,I.os,I.bare,I.base,I.loc,I.cell,I.free,I.freeC,I.pin,I.hok,I.len⟩
def SP.unwish {D:Ends}{f:Flow}{s':Shared}(h:SP (X.wish E) pins D f s'):SP X pins D f s':=by
 cases f with
 | next=>obtain ⟨ai,H',I,q⟩:=h;exact ⟨ai,H',I.unwish,q⟩
 | brk=>obtain ⟨ai,H',I,q⟩:=h;exact ⟨ai,H',I.unwish,q⟩
 | cont=>obtain ⟨ai,H',I,q⟩:=h;exact ⟨ai,H',I.unwish,q⟩
 | ret u=>obtain ⟨v,ai,H',I,r,q⟩:=h;exact ⟨v,ai,H',I.unwish,r,q⟩
def PE.nox {e:Expr}{t:TE}(h:PE X.nox e t):PE X e t:=λpins s U H Q I hw =>
 wj (h pins s U H Q (I.wish _) hw) (λ_ _ ⟨v,H',I',r,q⟩=>⟨v,H',I'.unwish,r,q⟩) λ_ _ z=>z.elim
end
section
variable {X:Cx}{st:Stmt}{rest:List Stmt}{t u:TS}{e:Expr}{te:TE}{pos:Pos}
def Kc:TS:=λD U H=>D.nx U H
def Kd (t u:TS):TS:=λD U H=>t { D with nx:=u D } U H
def Ke:de X [] Kc:=λ_ _ U H _ I h=>wpAny_execs_nil ⟨U,H,I,h⟩
def Kf (h1:PS X st t) (h2:de X rest u):de X (st::rest) (Kd t u):=by
 intro pins s U H D I h
 refine wpAny_execs_cons (aO (h1 pins s U H { D with nx:=u D } I h) λf s1 q=>?_)
 cases f with
 | next =>
  obtain ⟨ai,H',I',q⟩:=q
  exact h2 pins s1 ai H' D I' q
 | ret v=>exact q
 | brk=>exact q
 | cont=>exact q
def Kg (h1:PS X st t):de X [st] t:=by
 intro pins s U H D I h
 refine wpAny_execs_cons (aO (h1 pins s U H D I h) λf s1 q=>?_)
 cases f with
 | next=>exact wpAny_execs_nil q
 | ret v=>exact q
 | brk=>exact q
 | cont=>exact q
def Inv.quiet {pins:Ac}{U:St}{H:Hp}{s:Shared}(I:Inv X pins U H s):interactive X.env=false:=by simp [interactive,I.ok.kind]
def Kh (te:TE):TS:=λD U H=>te U H λ_ H1=>D.nx U H1
def Ki (he:PE X e te) (hs:swapsWith e none pos.line X.env=pure false:=by rfl):PS X (.Expr e pos) (Kh te):=by
 intro pins s U H D I h
 exact wpAny_Expr_any (aO (he pins s U H _ I h) λv s1 ⟨x,H1,I1,r1,q1⟩=>⟨U,H1,I1,q1⟩) I.quiet hs
def Kj (te:TE):TS:=λD U H=>te U H D.rt
def Kk (he:PE X e te):PS X (.Return (some e) pos) (Kj te):=by
 intro pins s U H D I h
 exact wpAny_Return_some (aO (he pins s U H _ I h) λv s1 ⟨x,H1,I1,r1,q1⟩=>⟨x,U,H1,I1,r1,q1⟩)
def Kl (c:TT) (t u:TS):TS:=λD U H=>c U H λb H1=>if b=true then t D U H1 else u D U H1
def Km {c:Expr}{a b:List Stmt}{tc:TT}(hc:PT X c tc) (ha:de X a t) (hb:de X b u):PS X (.If c a b pos) (Kl tc t u):=by
 intro pins s U H D I h
 refine wpAny_If (aO (hc pins s U H _ I h) λd s1 ⟨H1,I1,q1⟩=>?_)
 cases d with
 | true=>exact ha pins s1 U H1 D I1 q1
 | false=>exact hb pins s1 U H1 D I1 q1
def Ko:TS:=λ_ _ _=>False
def Kp {dX:List Stmt}:de X dX Ko:=λ_ _ _ _ _ _ h=>h.elim
end
abbrev TG:=V->St->Hp->(St->Hp->Prop)->Prop
abbrev lW:=List V->St->Hp->(St->Hp->Prop)->Prop
def PG (X:Cx) (target:Expr) (t:TG):Prop :=
 ∀(pins:Ac) (s:Shared) (U:St) (H:Hp) (v:V) (u:Value) (Q:St->Hp->Prop),Inv X pins U H s->RelV v u->t v U H Q ->
  wpAny (model X.prog X.w) X.A (assign target X.env u) (λ_ s'=>∃ai H',Inv X pins ai H' s'/\Q ai H') X.xe s
def rX (X:Cx) (ts:List Expr) (t:lW):Prop :=
 ∀(pins:Ac) (s:Shared) (U:St) (H:Hp) (vs:List V) (us:Af) (Q:St->Hp->Prop),Inv X pins U H s->Vals vs us->t vs U H Q ->
  wpAny (model X.prog X.w) X.A (assignInOrder ((assignEach ts X.env).map (·.2)) us) (λ_ s'=>∃ai H',Inv X pins ai H' s'/\Q ai H') X.xe s
abbrev pF:=V->V->V->Hp->(Hp->Prop)->Prop
def uZ (X:Cx) (t:pF):Prop :=
 ∀(pins:Ac) (s:Shared) (U:St) (H:Hp) (o i v:V) (ov iv u:Value) (Q:Hp->Prop),Inv X pins U H s->RelV o ov->RelV i iv->RelV v u->t o i v H Q ->
  wpAny (model X.prog X.w) X.A (setItem ov iv u) (λ_ s'=>∃H',Inv X pins U H' s'/\Q H') X.xe s
abbrev rY:=V->V->Hp->VK->Prop
def vy (X:Cx) (op:Operator) (t:rY):Prop :=
 ∀(pins:Ac) (s:Shared) (U:St) (H:Hp) (x y:V) (v u:Value) (Q:VK),Inv X pins U H s->RelV x v->RelV y u->t x y H Q ->
  wpAny (model X.prog X.w) X.A (inplaceOp op v u) (EP X pins U Q) X.xe s
section
variable {X:Cx}{pos:Pos}
def gh (i:Nat):TG:=λv U H Q=>Q (U.set i (some v)) H
def iJ {i:Nat}{x:Str}(hN:X.N.Nodup) (hi:X.N[i]?=some x) (hx:Loc X.env.scope x) (hf:X.fn x=true\/X.env.scope.names.lookup x=some .local:=by first|exact .inl rfl|exact .inr rfl|assumption):PG X (.Name x pos) (gh i):=by
 intro pins s U H v u Q I r h
 exact wpAny_assign_Name (rV I hN hi hx r (λs' I'=>⟨_,H,I',h⟩) hf)
def vz:lW:=λvs U H Q=>vs=[]/\Q U H
def pG (t:TG) (u:lW):lW:=λvs U H Q=>∃v r,vs=v::r/\t v U H λai H'=>u r ai H' Q
def vA:rX X [] vz:=by
 intro pins s U H vs us Q I r h
 obtain ⟨e,h⟩:=h
 subst e
 cases r
 exact assignInOrder_nil ⟨U,H,I,h⟩
def nX {e:Expr}{es:List Expr}{t:TG}{u:lW}(h1:PG X e t) (h2:rX X es u)
  (hs:(assignEach (e::es) X.env).map (·.2)=assign e X.env::(assignEach es X.env).map (·.2):=by rfl):rX X (e::es) (pG t u):=by
 intro pins s U H vs us Q I r h
 obtain ⟨v,vr,e1,h⟩:=h
 subst e1
 cases r with
 | cons r rr =>
  rw [hs]
  refine assignInOrder_cons (aO (h1 pins s U H _ _ _ I r h) λ_ s1 ⟨ar,H1,I1,q1⟩=>?_)
  exact h2 pins s1 ar H1 _ _ Q I1 rr q1
def vB (K:PySem.W.Frag) (n:Nat) (t:lW):TG:=λv U H Q=>∃a xs,v=.ref a/\a5 K H a xs/\xs.length=n/\t xs U H Q
def vC {es:List Expr}{k:Nat}{t:lW}{n:Nat}(hc:X.calm=true) (h:rX X es t)
  (hn:(assignEach es X.env).length=n:=by rfl) (cG:(assignEach es X.env).findIdx? (·.1)=none:=by rfl):PG X (.Tuple es k pos) (vB X.K n t):=by
 intro pins s U H v u Q I r hw
 obtain ⟨a,xs,e1,hq,hl,hw⟩:=hw
 subst e1
 cases r
 obtain ⟨its,rv,ht,hz⟩:=I.tuple hq
 refine assign_Tuple_tuple (I.ok.hd hc) ht (by simp [hn,<-hl,rv.length]) cG λh' hx=>?_
 have I1:Inv X pins U H { s with heap:=h' }:=I.kept (t':=s.toks) λb o e=>hx b o (jg (yF e)) e
 exact h pins _ U H xs _ Q I1 (by simpa using rv) hw
def Kq (to ti:TE) (t:pF):TG:=λv U H Q=>to U H λo H1=>ti U H1 λi H2=>t o i v H2 λH3=>Q U H3
def Kr {o i:Expr}{to ti:TE}{t:pF}(ho:PE X o to) (hi:PE X i ti) (hs:uZ X t)
  (ha:∀v,assign (.Subscript o i pos) X.env v=(do
   let ov <-holding [v] (eval o X.env)
   let iv <-holding [v,ov] (eval i X.env)
   standAt pos
   holding [v,ov,iv] (setItem ov iv v)
   release [v,ov,iv] []):=by intro _;rfl):PG X (.Subscript o i pos) (Kq to ti t):=by
 intro pins s U H v u Q I r h
 rw [ha]
 refine zA (wD (aO (ho pins s U H _ I h) λov s1 ⟨x,H1,I1,r1,q1⟩=>?_))
 refine zA (wD (aO (hi pins s1 U H1 _ I1 q1) λiv s2 ⟨y,H2,I2,r2,q2⟩=>?_))
 refine zA (wpAny_standAt (zA (wD (aO (hs pins s2 U H2 x y v ov iv u _ I2 r1 r2 r q2) λ_ s3 ⟨H3,I3,q3⟩=>?_))))
 exact wpAny_release ⟨U,H3,I3,q3⟩
def CC (te:TE) (g:TG):TS:=λD U H=>te U H λx H1=>g x U H1 D.nx
def CD {tg e:Expr}{te:TE}{g:TG}(he:PE X e te) (hg:PG X tg g) (hs:swapsWithSole [tg] e pos.line X.env=pure false:=by rfl) (hw:swappedStores [tg] e X.env=pure none:=by rfl)
  (h1:(assignEach [tg] X.env).map (·.2)=[assign tg X.env]:=by rfl):PS X (.Assign [tg] e pos) (CC te g):=by
 intro pins s U H D I h
 refine wpAny_Assign_stores (aO (he pins s U H _ I h) λv s1 ⟨x,H1,I1,r1,q1⟩=>?_) hs hw
 rw [h1]
 exact aO (hg pins s1 U H1 x v _ I1 r1 q1) λ_ s2 q=>q
def Ks {i:Nat}{x:Str}{e:Expr}{te:TE}{pos':Pos}(hN:X.N.Nodup) (hi:X.N[i]?=some x) (hx:Loc X.env.scope x) (he:PE X e te) (hs:swapsWith e (some (.Name x pos')) pos.line X.env=pure false:=by rfl) (hf:X.fn x=true\/X.env.scope.names.lookup x=some .local:=by first|exact .inl rfl|exact .inr rfl|assumption) :
  PS X (.Assign [.Name x pos'] e pos) (CC te (gh i)):=by
 intro pins s U H D I h
 refine wpAny_Assign_Name (aO (he pins s U H _ I h) λv s1 ⟨y,H1,I1,r1,q1⟩=>?_) hs
 exact rV I1 hN hi hx r1 (λs2 I2=>⟨_,H1,I2,q1⟩) hf
def Kt (i:Nat) (te:TE) (ti:rY):TS:=λD U H=>∃x,U[i]?=some (some x)/\te U H λy H1=>ti x y H1 λz H2=>D.nx (U.set i (some z)) H2
def Ku {i:Nat}{x:Str}{e:Expr}{te:TE}{op:Operator}{ti:rY}{pos':Pos}(hN:X.N.Nodup) (hi:X.N[i]?=some x) (hx:Loc X.env.scope x) (he:PE X e te) (ho:vy X op ti) (hf:X.fn x=true\/X.env.scope.names.lookup x=some .local:=by first|exact .inl rfl|exact .inr rfl|assumption) :
  PS X (.AugAssign (.Name x pos') op e pos) (Kt i te ti):=by
 intro pins s U H D I h
 obtain ⟨v,e1,h⟩:=h
 obtain ⟨m,hn,hl⟩:=I.loc
 have Kv:pB X.env.scope x:=by rcases hx with k|k;exact .inl k;exact .inr (.inl k)
 obtain ⟨u,r,l⟩:=hl i x v hi e1 Kv
 refine wpAny_AugAssign_Name ?_
 have go:wpAny (model X.prog X.w) X.A (eval e X.env) (λw aa=>wpAny (model X.prog X.w) X.A (inplaceOp op u w) (λr aK=>wpAny (model X.prog X.w) X.A (storeName X.env x r) (λ_=>SP X pins D .next) X.xe aK) X.xe aa) X.xe s:=by
  refine aO (he pins s U H _ I h) λw s1 ⟨y,H1,I1,r1,q1⟩=>?_
  refine aO (ho pins s1 U H1 v y u w _ I1 r r1 q1) λz s2 ⟨zv,H2,I2,r2,q2⟩=>?_
  exact rV I2 hN hi hx r2 (λs3 I3=>⟨_,H2,I3,q2⟩) hf
 rcases l with ⟨hk,hm⟩|⟨hk,c,hc,d0⟩
 ·exact wpAny_loadName_local I.ok.kind hk hn hm go
 ·rcases hk with hk|hk
  ·exact wpAny_loadName_cell I.ok.kind hk hc d0 go
  ·rcases hx with k|k
   ·have:X.env.scope.names.lookup x=some .free:=hk
    rw [k] at this;cases this
   ·have:X.env.scope.names.lookup x=some .free:=hk
    rw [k] at this;cases this
def Kw (f:Int->Int->Int):rY:=λx y H Q=>∃i j,x=.int i/\y=.int j/\Q (.int (f i j)) H
def Kx:vy X .Add (Kw λi j=>i+j):=by
 intro pins s U H x y v u Q I r1 r2 h
 obtain ⟨i,j,e1,e2,q⟩:=h
 subst e1;subst e2
 obtain ⟨t,rfl⟩:=r1
 obtain ⟨t',rfl⟩:=r2
 exact iadd_int ⟨.int _,H,I.tok _,⟨_,rfl⟩,q⟩
def Ky (c:TT) (tb:TS):TS:=λD U H=>∃W:Nat->St->Hp->Prop,(∃m,W m U H)/\∀m U H,W m U H ->
 c U H λb H1=>if b=true then ∃N:St->Hp->Prop,(∀ai H',N ai H'->∃m',m'<m/\W m' ai H')/\tb { D with nx:=N,ct:=N,bk:=D.nx } U H1 else D.nx U H1
def Kz {c:Expr}{body:List Stmt}{tc:TT}{tb:TS}(hp:PassesOwn (model X.prog X.w) X.A X.env X.xe) (hc:PT X c tc) (hb:de X body tb):PS X (.While c body [] pos) (Ky tc tb):=by
 intro pins s U H D I h
 obtain ⟨W,⟨m0,w0⟩,turn⟩:=h
 refine wpAny_While (codeAny_whileLoop (λn s'=>∃ai H',Inv X pins ai H' s'/\W n ai H') ?_ m0 ⟨U,H,I,w0⟩)
 rintro n s1 ⟨ar,H1,I1,w1⟩
 refine wpAny_passesOwn hp (aO (hc pins s1 ar H1 _ I1 (turn n ar H1 w1)) λb s2 ⟨H2,I2,q2⟩=>?_)
 cases b with
 | true =>
  obtain ⟨N,hN,q2⟩:=q2
  rw [zF rfl]
  refine wpAny_passesOwn hp (aO (hb pins s2 ar H2 _ I2 q2) λf s3 q3=>?_)
  cases f with
  | next =>
   obtain ⟨aw,H3,I3,n3⟩:=q3
   obtain ⟨m',hm,w3⟩:=hN aw H3 n3
   exact ⟨m',hm,aw,H3,I3,w3⟩
  | cont =>
   obtain ⟨aw,H3,I3,n3⟩:=q3
   obtain ⟨m',hm,w3⟩:=hN aw H3 n3
   exact ⟨m',hm,aw,H3,I3,w3⟩
  | brk=>exact q3
  | ret v=>exact q3
 | false =>
  rw [zR Bool.false_ne_true]
  exact wpAny_execs_nil ⟨ar,H2,I2,q2⟩
end
structure It where
 go:Nat->Hp->Prop
 yld:Nat->Hp->V->Hp->Prop
 stop:Nat->Hp->Prop
def df (X:Cx) (pins:Ac) (H:Hp) (b:Addr):Prop :=
 H b=none/\b≠X.env.locals/\b∉X.fs/\(b∈X.ex\/X.s₀.heap.objs.size<=b)/\(∀x c,X.env.cells.lookup x=some c->c≠b)/\∀p∈X.pn++pins,p.1≠b
def Inv.fpOk {X:Cx}{pins:Ac}{U:St}{H H':Hp}{s:Shared}{b:Addr}(I:Inv X pins U H s) (hb:s.heap.objs.size<=b) (hn:H' b=none):df X pins H' b:=by
 refine ⟨hn,Nat.ne_of_gt (jW I.lt hb),I.nofs hb,.inr (jr I.sz hb),λx c e z=>?_,λp hp z=>?_⟩
 ·obtain ⟨v,q⟩:=I.cell x c e
  exact absurd (jW q.lt (by rw [z];exact hb)) (Nat.lt_irrefl _)
 ·exact absurd (jW (yF (I.pin p hp).1) (by rw [z];exact hb)) (Nat.lt_irrefl _)
structure Turn (P:Program) (w:World) (K:PySem.W.Frag) (tg:Expr) (J:It) (fp:Ae) (it:Addr) (tn:Nat->Heap->Prop):Prop where
 mem:it∈fp
 obj:∀i h,tn i h->∀b∈fp,∃o,h.get? b=some o/\∀v,o.data ≠ .cell v
 keep:∀i h h',tn i h->(∀b∈fp,∀o,h.get? b=some o->h'.get? b=some o)->tn i h'
 item:∀(X:Cx),X.prog=P->X.w=w->X.K=K->X.calm=true->∀(i:Nat) (pins:Ac) (s:Shared) (U:St) (H:Hp) (E:Aa),Inv X pins U H s->(∀b∈fp,df X pins H b)->tn i s.heap->J.go i H ->
  wpAny (model P w) X.A (pyNext (.ref it)) (λr s1=>∃u,r=some u /\
   wpAny (model P w) X.A (letOwnedTupleGo tg (.ref it) u) (λ_ s2=>∃x H',Inv X pins U H' s2/\RelV x u/\J.yld i H x H'/\tn (i+1) s2.heap/\∀b∈fp,H' b=none) E s1) E s
 done:∀(X:Cx),X.prog=P->X.w=w->X.K=K->X.calm=true->∀(i:Nat) (pins:Ac) (s:Shared) (U:St) (H:Hp) (E:Aa),Inv X pins U H s->(∀b∈fp,df X pins H b)->tn i s.heap->J.stop i H ->
  wpAny (model P w) X.A (pyNext (.ref it)) (λr s1=>r=none/\Inv X pins U H s1) E s
 self:∀(A:Around) (i:Nat) (s:Shared) (Q:Aa) (E:Aa),tn i s.heap->Q (.ref it) s->wpAny (model P w) A (pyIter (.ref it)) Q E s
abbrev TI:=St->Hp->(It->Hp->Prop)->Prop
def CF (X:Cx) (pins:Ac) (U:St) (tg:Expr) (R:It->Hp->Prop) (rZ:Value) (s2:Shared):Prop :=
 ∃(it:Addr) (fp:Ae) (tn:Nat->Heap->Prop) (J:It) (H':Hp),rZ=.ref it/\Inv X pins U H' s2/\Turn X.prog X.w X.K tg J fp it tn/\tn 0 s2.heap/\(∀b∈fp,df X pins H' b)/\R J H'
def PI (X:Cx) (tg iter:Expr) (wi:TI):Prop :=
 ∀(pins:Ac) (s:Shared) (U:St) (H:Hp) (R:It->Hp->Prop),Inv X pins U H s->wi U H R ->
  wpAny (model X.prog X.w) X.A (eval iter X.env) (λv s1=>wpAny (model X.prog X.w) X.A (pyIter v) (CF X pins U tg R) X.xe s1) X.xe s
def r6 {M:Model}{A:Around}{E:Aa}{s:Shared}{tg:Expr}{it:Addr}{u:Value}{o:Obj}{n:String}{vs:Array Value}{Q:Unit->Shared->Prop}(ho:s.heap.get? it=some o) (hc:o.cls=.type n) (hd:o.data=.fields vs)
  (hn:["enumerate", "zip", "dict_itemiterator", "dict_reverseitemiterator", "odict_iterator", "itertools.zip_longest", "itertools.pairwise"].contains n=false) (hQ:Q () s):wpAny M A (letOwnedTupleGo tg (.ref it) u) Q E s:=by
 unfold letOwnedTupleGo
 cases tg<;>first
  | exact yg hQ
  | (cases u<;>first
    | exact yg hQ
    | (refine zA (wpAny_load ho ?_)
       rw [hc,hd]
       show wpAny M A (if (["enumerate", "zip", "dict_itemiterator", "dict_reverseitemiterator", "odict_iterator", "itertools.zip_longest", "itertools.pairwise"].contains n&&vs[0]?==some (rawInt _))=true then _ else _) Q E s
       rw [zR (by intro h;rw [hn,Bool.false_and] at h;cases h)]
       exact yg hQ))
def r8 (K:PySem.W.Frag) (a:Addr):It :=
 ⟨λi H=>∃xs x,aZ K H a xs/\xs[i]?=some x,λi H x H'=>H'=H/\∀xs,aZ K H a xs->xs[i]?=some x,λi H=>∃xs,aZ K H a xs/\xs.length<=i⟩
def nY (K:PySem.W.Frag) (a:Addr):It :=
 ⟨λi H=>∃xs x,a5 K H a xs/\xs[i]?=some x,λi H x H'=>H'=H/\∀xs,a5 K H a xs->xs[i]?=some x,λi H=>∃xs,a5 K H a xs/\xs.length<=i⟩
def pH (lo:Int) (n:Nat):It:=⟨λi _=>i<n,λi H x H'=>H'=H/\x=.int (lo+i),λi _=>n<=i⟩
theorem KA {P:Program}{w:World}{K:PySem.W.Frag}{tg:Expr}(a it:Addr):Turn P w K tg (r8 K a) [it] it (λi h=>h.IsListIter it a i) where
 mem:=by simp
 obj:=λi h st b hb=>by
  have e:b=it:=by simpa using hb
  subst e
  obtain ⟨o,e,c,d⟩:=st
  exact ⟨o,e,λv z=>by rw [d] at z;cases z⟩
 keep:=λi h h' st k=>st.at λo e=>k it (by simp) o e
 item:=by
  intro X hP hw hK hc i pins s U H E I hf st hg
  subst hP hw hK
  obtain ⟨xs,x,hq,hx⟩:=hg
  obtain ⟨its,rv,p,hz⟩:=I.list hq
  obtain ⟨u,hu,ru⟩:=rv.get hx
  obtain ⟨f0,f1,f2,f3,f4,f5⟩:=hf it (by simp)
  refine wpAny_pyNext_list_item st p.isList (x:=u) (by simpa using hu) λh' bA sb=>?_
  have I1:Inv X pins U H { s with heap:=h' }:=I.turned (t':=s.toks) (λb o hb e=>(sb.2 b hb).trans e) f0 f1 f3 f4 f5
  obtain ⟨o,e,c,d⟩:=id bA
  exact ⟨u,rfl,r6 (s:={ s with heap:=h' }) e c d (by decide) ⟨x,H,I1,ru,⟨rfl,λys hy=>by rw [I.list_inj hy hq];exact hx⟩,bA,λb hb=>(hf b hb).1⟩⟩
 done:=by
  intro X hP hw hK hc i pins s U H E I hf st hg
  subst hP hw hK
  obtain ⟨xs,hq,hx⟩:=hg
  obtain ⟨its,rv,p,hz⟩:=I.list hq
  obtain ⟨f0,f1,f2,f3,f4,f5⟩:=hf it (by simp)
  have hl:=rv.length
  exact wpAny_pyNext_list_end (I.ok.hd hc) st p.isList (by simp;omega) λh' eb=>⟨rfl,I.turned (t':=s.toks) (λb o hb e=>eb b o hb e) f0 f1 f3 f4 f5⟩
 self:=λ_ _ _ _ _ st h=>wpAny_pyIter_listiter st h
def KC {P:Program}{w:World}{K:PySem.W.Frag}{tg:Expr}(a it:Addr):Turn P w K tg (nY K a) [it] it (λi h=>h.IsTupleIter it a i) where
 mem:=by simp
 obj:=λi h st b hb=>by
  have e:b=it:=by simpa using hb
  subst e
  obtain ⟨o,e,c,d⟩:=st
  exact ⟨o,e,λv z=>by rw [d] at z;cases z⟩
 keep:=λi h h' st k=>st.at λo e=>k it (by simp) o e
 item:=by
  intro X hP hw hK hc i pins s U H E I hf st hg
  subst hP hw hK
  obtain ⟨xs,x,hq,hx⟩:=hg
  obtain ⟨its,rv,p,hz⟩:=I.tuple hq
  obtain ⟨u,hu,ru⟩:=rv.get hx
  obtain ⟨f0,f1,f2,f3,f4,f5⟩:=hf it (by simp)
  refine wpAny_pyNext_tuple_item st (show s.heap.IsTuple a its.toArray from p) (x:=u) (by simpa using hu) λh' bA sb=>?_
  have I1:Inv X pins U H { s with heap:=h' }:=I.turned (t':=s.toks) (λb o hb e=>(sb.2 b hb).trans e) f0 f1 f3 f4 f5
  obtain ⟨o,e,c,d⟩:=id bA
  exact ⟨u,rfl,r6 (s:={ s with heap:=h' }) e c d (by decide) ⟨x,H,I1,ru,⟨rfl,λys hy=>by rw [I.tuple_inj hy hq];exact hx⟩,bA,λb hb=>(hf b hb).1⟩⟩
 done:=by
  intro X hP hw hK hc i pins s U H E I hf st hg
  subst hP hw hK
  obtain ⟨xs,hq,hx⟩:=hg
  obtain ⟨its,rv,p,hz⟩:=I.tuple hq
  obtain ⟨f0,f1,f2,f3,f4,f5⟩:=hf it (by simp)
  have hl:=rv.length
  exact wpAny_pyNext_tuple_end (I.ok.hd hc) st (show s.heap.IsTuple a its.toArray from p) (by simp;omega) λh' eb=>⟨rfl,I.turned (t':=s.toks) (λb o hb e=>eb b o hb e) f0 f1 f3 f4 f5⟩
 self:=λ_ _ _ _ _ st h=>wpAny_pyIter_tupleiter st h
theorem KG {P:Program}{w:World}{K:PySem.W.Frag}{tg:Expr}(it:Addr) (lo:Int) (n:Nat):Turn P w K tg (pH lo n) [it] it (λi h=>IsRangeIter h it (lo+(i:Nat)*1) ((n:Int)-(i:Nat)) 1) where
 mem:=by simp
 obj:=λi h st b hb=>by
  have e:b=it:=by simpa using hb
  subst e
  exact ⟨_,st,λv z=>by
   have z':Data.fields _=Data.cell v:=z
   cases z'⟩
 keep:=λi h h' st k=>k it (by simp) _ st
 item:=by
  intro X hP hw hK hc i pins s U H E I hf st hg
  subst hP hw hK
  obtain ⟨f0,f1,f2,f3,f4,f5⟩:=hf it (by simp)
  have W:=Walks.range (prog:=X.prog) (w:=X.w) (I.ok.hd hc) it lo 1 n
  refine W.item i s _ _ hg st λv h' tk hv bA kk=>?_
  obtain ⟨t,rfl⟩:=hv
  have I1:Inv X pins U H { s with heap:=h',toks:=tk }:=I.turned (λb o hb e=>kk b o (by simpa using hb) e) f0 f1 f3 f4 f5
  refine ⟨_,rfl,r6 (s:={ s with heap:=h',toks:=tk }) (n := "range_iterator") bA rfl rfl (by decide) ⟨.int (lo+i),H,I1,⟨t,?_⟩,⟨rfl,rfl⟩,bA,λb hb=>(hf b hb).1⟩⟩
  rw [Int.mul_one]
 done:=by
  intro X hP hw hK hc i pins s U H E I hf st hg
  subst hP hw hK
  obtain ⟨f0,f1,f2,f3,f4,f5⟩:=hf it (by simp)
  exact wpAny_pyNext_range_end (I.ok.hd hc) st (by have:n<=i:=hg;omega) λh' eb=>⟨rfl,I.turned (t':=s.toks) (λb o hb e=>eb b o hb e) f0 f1 f3 f4 f5⟩
 self:=λ_ _ _ _ _ st h=>wpAny_pyIter_rangeiter st h
section
variable {X:Cx}{tg:Expr}
theorem KH {pins:Ac}{U:St}{H:Hp}{s:Shared}{R:It->Hp->Prop}{E:Aa}{lo hi:Int}{t u v:Tok}{tk:Nat}(I:Inv X pins U H s) (h1 : -(2 ^ 62)<=lo) (h2:lo<2 ^ 62) (h3 : -(2 ^ 62)<=hi) (h4:hi<2 ^ 62)
  (q:R (pH lo (hi-lo).toNat) H):wpAny (model X.prog X.w) X.A (pyIter (.ref s.heap.objs.size)) (CF X pins U tg R) E { s with heap:=s.heap.push { cls:=.type "range", data:=.fields #[.int lo t,.int hi u,.int 1 v] },toks:=tk }:=by
 refine wpAny_pyIter_range (IsRange.new ..) (small_one h1 h2 h3 h4) ?_
 have I1:Inv X pins U H { s with heap:=s.heap.push { cls:=.type "range", data:=.fields #[.int lo t,.int hi u,.int 1 v] },toks:=tk }:=I.kept λb o e=>yC _ e
 refine ⟨(s.heap.push { cls:=.type "range", data:=.fields #[.int lo t,.int hi u,.int 1 v] }).objs.size,[(s.heap.push { cls:=.type "range", data:=.fields #[.int lo t,.int hi u,.int 1 v] }).objs.size],_,_,H,rfl,
  I1.kept (t':=tk) λb o e=>yC _ e,KG _ lo (hi-lo).toNat,?_,λb hb=>?_,q⟩
 ·have e1:lo+((0:Nat):Int)*1=lo:=by simp
  have e2:(((hi-lo).toNat:Nat):Int)-((0:Nat):Int)=Builtin.Range.rangeSize lo hi 1:=by rw [rangeSize_one];split<;>omega
  show IsRangeIter _ _ (lo+((0:Nat):Int)*1) ((((hi-lo).toNat:Nat):Int)-((0:Nat):Int)) 1
  rw [e1,e2]
  exact jq _ rfl
 ·have e:b=(s.heap.push { cls:=.type "range", data:=.fields #[.int lo t,.int hi u,.int 1 v] }).objs.size:=by simpa using hb
  subst e
  exact I1.fpOk (yk _) (I1.hok.fresh (yk _))
def bo (ta:TA):TI:=λU H R=>ta U H λvs H1=>∃j:Int,vs=[.int j] /\ -(2 ^ 62)<=j/\j<2 ^ 62/\R (pH 0 j.toNat) H1
def vD (ta:TA):TI:=λU H R=>ta U H λvs H1=>∃i j:Int,vs=[.int i,.int j]/\(-(2 ^ 62)<=i/\i<2 ^ 62 /\ -(2 ^ 62)<=j/\j<2 ^ 62)/\R (pH i (j-i).toNat) H1
theorem KI {a:Expr} {ta:TA} {p pos:Pos} (hg:Gl X "range") (hm:X.mg "range" = none) (ha:PA X [a] ta) (hs:starEach [a] X.env=[(false,eval a X.env)]:=by rfl):PI X tg (.Call (.Name "range" p) [a] [] pos) (bo ta):=by
 intro pins s U H R I h
 refine Call_ (lV I hg hm boot_range (PyProof.Rows.callWith_type1 (aO (ha pos pins s U H _ I h) λus s1 ⟨vs,H1,I1,r1,q1⟩=>?_) hs rfl))
 obtain ⟨j,e,q1,q2,q⟩:=q1
 subst e
 cases r1 with
 | cons r rr =>
  cases rr
  obtain ⟨t,rfl⟩:=r
  exact call_range_1 (KH I1 (by omega) (by omega) q1 q2 (by simpa using q))
def KJ (wi:TI) (g:TG) (tb:TS):TS:=λD U H=>wi U H λJ H1=>∃W:Nat->Nat->St->Hp->Prop,(∃m,W 0 m U H1)/\∀i m U H,W i m U H ->
 (J.stop i H/\D.nx U H)\/(J.go i H/\∃N:St->Hp->Prop,(∀ai H',N ai H'->∃m',m'<m/\W (i+1) m' ai H')/\∀x H',J.yld i H x H'->g x U H' λaE H2=>tb { D with nx:=N,ct:=N,bk:=D.nx } aE H2)
def gv (fp:Ae) (h:Heap):Ac:=fp.filterMap λb=>(h.get? b).map λo=>(b,o)
def pI {fp:Ae}{h:Heap}{b:Addr}{o:Obj}(hb:b∈fp) (e:h.get? b=some o):(b,o)∈gv fp h:=List.mem_filterMap.mpr ⟨b,hb,by rw [e];rfl⟩
def KL {fp:Ae}{h:Heap}{p:Addr×Obj}(hp:p∈gv fp h):p.1∈fp/\h.get? p.1=some p.2:=by
 obtain ⟨b,hb,e⟩:=List.mem_filterMap.mp hp
 cases q:h.get? b with
 | none=>rw [q] at e;cases e
 | some o =>
  rw [q] at e
  have e':(b,o)=p:=Option.some.inj e
  subst e'
  exact ⟨hb,q⟩
def Inv.pinned {pins:Ac}{U:St}{H:Hp}{s:Shared}{fp:Ae}(I:Inv X pins U H s) (hf:∀b∈fp,df X pins H b) (ho:∀b∈fp,∃o,s.heap.get? b=some o/\∀v,o.data ≠ .cell v):Inv X (pins++gv fp s.heap) U H s :=
 I.pins_of λp hp=>(jG.mp hp).elim (λz=>I.pin p (jm _ z)) λz=>by
  obtain ⟨hb,e⟩:=KL z
  obtain ⟨f0,f1,f2,_⟩:=hf p.1 hb
  obtain ⟨o,e',d⟩:=ho p.1 hb
  rw [e] at e';cases e'
  exact ⟨e,f0,f1,f2,d⟩
def Inv.unpinned {pins pl:Ac}{U:St}{H:Hp}{s:Shared}(I:Inv X (pins++pl) U H s):Inv X pins U H s:=I.pins_of λp hp=>I.pin p (jm _ (wF _ hp))
def vE {iter:Expr}{body:List Stmt}{wi:TI}{g:TG}{tb:TS}{pos:Pos}(hp:PassesOwn (model X.prog X.w) X.A X.env X.xe) (hc:X.calm=true) (hi:PI X tg iter wi) (hg:PG X tg g) (hb:de X body tb)
  (hs:∀x,foldedSetIterable iter X.env x=pure x:=by intro _;rfl):PS X (.For tg iter body [] pos) (KJ wi g tb):=by
 intro pins s U H D I h
 refine wpAny_For (aO (hi pins s U H _ I h) λv s1 h1=>aO h1 λrZ s2 h2=>?_) hs
 obtain ⟨it,fp,tn,J,H2,e,I2,T,ax,f2,W,⟨m0,w0⟩,turn⟩:=h2
 subst e
 have stat:∀{H':Hp},(∀b∈fp,H' b=none)->∀b∈fp,df X pins H' b:=λhn b hb=>⟨hn b hb,(f2 b hb).2⟩
 refine codeAny_forLoop_any (λn s'=>∃i ai H',Inv X pins ai H' s'/\tn i s'.heap/\(∀b∈fp,H' b=none)/\W i n ai H') ?_ m0 ⟨0,U,H2,I2,ax,λb hb=>(f2 b hb).1,w0⟩
 rintro n s3 ⟨i,aw,H3,I3,aS,k8,w3⟩
 rcases turn i n aw H3 w3 with ⟨stop,qn⟩|⟨go,N,hN,step⟩
 ·refine wpAny_passesOwn hp (aO (T.done X rfl rfl rfl hc i pins s3 aw H3 X.xe I3 (stat k8) aS stop) λr s4 ⟨hr,I4⟩=>?_)
  subst hr
  exact wpAny_execs_nil ⟨aw,H3,I4,qn⟩
 ·refine wpAny_passesOwn hp (aO (T.item X rfl rfl rfl hc i pins s3 aw H3 X.xe I3 (stat k8) aS go) λr s4 ⟨u,hr,h4⟩=>?_)
  subst hr
  refine wpAny_passesOwn hp (aO h4 λ_ s5 ⟨x,H5,I5,r5,y5,fO,pJ⟩=>?_)
  have pK:=I5.pinned (stat pJ) (T.obj _ _ fO)
  refine wpAny_passesOwn hp (aO (hg _ s5 aw H5 x u _ pK r5 (step x H5 y5)) λ_ s6 ⟨aF,H6,I6,q6⟩=>?_)
  refine wpAny_passesOwn hp (aO (hb _ s6 aF H6 _ I6 q6) λf s7 q7=>?_)
  have again:∀{au:St} {H7:Hp},Inv X (pins++gv fp s5.heap) au H7 s7->N au H7->∃m,m<n/\∃i ai H',Inv X pins ai H' s7/\tn i s7.heap/\(∀b∈fp,H' b=none)/\W i m ai H':=λ{au H7} I7 n7=>by
   obtain ⟨m',hm,w7⟩:=hN au H7 n7
   refine ⟨m',hm,i+1,au,H7,I7.unpinned,T.keep _ _ _ fO λb hb o e=>(I7.pin (b,o) (jm _ (jm _ (pI hb e)))).1,λb hb=>?_,w7⟩
   obtain ⟨o,e,d⟩:=T.obj _ _ fO b hb
   exact (I7.pin (b,o) (jm _ (jm _ (pI hb e)))).2.1
  cases f with
  | next=>obtain ⟨au,H7,I7,n7⟩:=q7;exact again I7 n7
  | cont=>obtain ⟨au,H7,I7,n7⟩:=q7;exact again I7 n7
  | brk=>obtain ⟨au,H7,I7,q7⟩:=q7;exact ⟨au,H7,I7.unpinned,q7⟩
  | ret v=>obtain ⟨x7,au,H7,I7,r7,q7⟩:=q7;exact ⟨x7,au,H7,I7.unpinned,r7,q7⟩
end
theorem dg {K:PySem.W.Frag}{a:Addr}{xs:List V}{g:TG}{tb:TS}{D:Ends}{U:St}{H:Hp}(Pv:Nat->St->Hp->Prop) (h0:Pv 0 U H) (hl:∀i U H,i<=xs.length->Pv i U H->a5 K H a xs)
  (hs:∀i x U H,xs[i]?=some x->Pv i U H->g x U H λaE H2=>tb { D with nx:=Pv (i+1),ct:=Pv (i+1),bk:=D.nx } aE H2) (hd:∀U H,Pv xs.length U H->D.nx U H) :
  ∃W:Nat->Nat->St->Hp->Prop,(∃m,W 0 m U H)/\∀i m U H,W i m U H ->
   ((nY K a).stop i H/\D.nx U H)\/((nY K a).go i H/\∃N:St->Hp->Prop,(∀ai H',N ai H'->∃m',m'<m/\W (i+1) m' ai H')/\∀x H',(nY K a).yld i H x H'->g x U H' λaE H2=>tb { D with nx:=N,ct:=N,bk:=D.nx } aE H2):=by
 refine ⟨λi m U H=>m=xs.length-i/\i<=xs.length/\Pv i U H,⟨xs.length,by simp,js _,h0⟩,?_⟩
 rintro i m U H ⟨rfl,hi,p⟩
 have q:=hl i U H hi p
 by_cases bh:i<xs.length
 ·refine .inr ⟨⟨xs,xs[i],q,by simp [bh]⟩,Pv (i+1),λai H' p'=>⟨xs.length-(i+1),by omega,rfl,bh,p'⟩,λx H' y=>?_⟩
  obtain ⟨e,y⟩:=y
  subst e
  exact hs i x U _ (y xs q) p
 ·have e:i=xs.length:=by omega
  subst e
  exact .inl ⟨⟨xs,q,yk _⟩,hd U H p⟩
abbrev R2:=V->V->Hp->VK->Prop
def bf (X:Cx) (f:Value->Value->Sem Value) (r:R2):Prop :=
 ∀(pins:Ac) (s:Shared) (U:St) (H:Hp) (x y:V) (v u:Value) (Q:VK),Inv X pins U H s->RelV x v->RelV y u->r x y H Q ->
  wpAny (model X.prog X.w) X.A (f v u) (EP X pins U Q) X.xe s
def pL (X:Cx) (f:Value->Sem Value) (r:V->Hp->VK->Prop):Prop :=
 ∀(pins:Ac) (s:Shared) (U:St) (H:Hp) (x:V) (v:Value) (Q:VK),Inv X pins U H s->RelV x v->r x H Q ->
  wpAny (model X.prog X.w) X.A (f v) (EP X pins U Q) X.xe s
def bZ (X:Cx) (f:Value) (r:List V->Hp->VK->Prop):Prop :=
 ∀(pins:Ac) (s:Shared) (U:St) (H:Hp) (xs:List V) (us:Af) (Q:VK),Inv X pins U H s->Vals xs us->r xs H Q ->
  wpAny (model X.prog X.w) X.A (call f us) (EP X pins U Q) X.xe s
def pM (r:R2) (ta tb:TE):TE:=λU H Q=>ta U H λx H1=>tb U H1 λy H2=>r x y H2 Q
def KN (r:V->Hp->VK->Prop) (ta:TE):TE:=λU H Q=>ta U H λx H1=>r x H1 Q
def rI (C:Int->Int->Prop) (g:Int->Int->V):R2:=λx y H Q=>∃i j,x=.int i/\y=.int j/\C i j/\Q (g i j) H
def iK (g:Int->Int->V):R2:=λx y H Q=>∃i j,x=.int i/\y=.int j/\Q (g i j) H
def rU (g:Int->V):V->Hp->VK->Prop:=λx H Q=>∃i,x=.int i/\Q (g i) H
section
variable {X:Cx}{a b c:Expr}{ta tb tc:TE}{pos:Pos}
def pN (ha:PE X a ta) (hb:PE X b tb) {pins:Ac}{s:Shared}{U:St}{H:Hp}{R:V->V->Hp->Prop}(I:Inv X pins U H s)
  (h:ta U H λx H1=>tb U H1 λy H2=>R x y H2) {Q:Aa} {f:Value->Value->Sem Value}
  (hf:∀v u s2 x y H2,Inv X pins U H2 s2->RelV x v->RelV y u->R x y H2->wpAny (model X.prog X.w) X.A (f v u) Q X.xe s2) :
  wpAny (model X.prog X.w) X.A (eval a X.env) (λv ak=>wpAny (model X.prog X.w) X.A (eval b X.env) (λu aa=>wpAny (model X.prog X.w) X.A (f v u) Q X.xe aa) X.xe ak) X.xe s:=by
 refine aO (ha pins s U H _ I h) λv s1 ⟨x,H1,I1,r1,q1⟩=>?_
 refine aO (hb pins s1 U H1 _ I1 q1) λu s2 ⟨y,H2,I2,r2,q2⟩=>?_
 exact hf v u s2 x y H2 I2 r1 r2 q2
def KO {op:Operator}{r:R2}(ho:bf X (binaryOp op) r) (ha:PE X a ta) (hb:PE X b tb):PE X (.BinOp a op b pos) (pM r ta tb):=by
 intro pins s U H Q I h
 exact wpAny_BinOp (pN ha hb I h λv u s2 x y H2 I2 rx ry q=>ho pins s2 U H2 x y v u Q I2 rx ry q)
def KP {op:UnaryOp}{r:V->Hp->VK->Prop}(ho:pL X (unaryOp op) r) (ha:PE X a ta):PE X (.UnaryOp op a pos) (KN r ta):=by
 intro pins s U H Q I h
 exact UnaryOp_ (aO (ha pins s U H _ I h) λv s1 ⟨x,H1,I1,r1,q1⟩=>ho pins s1 U H1 x v Q I1 r1 q1)
def opI {f:Value->Value->Sem Value}{C:Int->Int->Prop}{g:Int->Int->Int}
  (rule:∀(i j:Int) (t u:Tok) (s:Shared) (Q:Aa) (E:Aa),C i j->Q (.int (g i j) s.toks) { s with toks:=s.toks+1 }->wpAny (model X.prog X.w) X.A (f (.int i t) (.int j u)) Q E s) :
  bf X f (rI C λi j=>.int (g i j)):=by
 intro pins s U H x y v u Q I rx ry h
 obtain ⟨i,j,rfl,rfl,hc,q⟩:=h
 obtain ⟨t,rfl⟩:=rx
 obtain ⟨t',rfl⟩:=ry
 exact rule i j t t' s _ _ hc ⟨.int (g i j),H,I.tok _,⟨_,rfl⟩,q⟩
def r9 {f:Value->Value->Sem Value}{g:Int->Int->Int}
  (rule:∀(i j:Int) (t u:Tok) (s:Shared) (Q:Aa) (E:Aa),Q (.int (g i j) s.toks) { s with toks:=s.toks+1 }->wpAny (model X.prog X.w) X.A (f (.int i t) (.int j u)) Q E s) :
  bf X f (iK λi j=>.int (g i j)):=by
 intro pins s U H x y v u Q I rx ry h
 obtain ⟨i,j,rfl,rfl,q⟩:=h
 obtain ⟨t,rfl⟩:=rx
 obtain ⟨t',rfl⟩:=ry
 exact rule i j t t' s _ _ ⟨.int (g i j),H,I.tok _,⟨_,rfl⟩,q⟩
def CG {f:Value->Value->Sem Value}{g:Int->Int->Bool}
  (rule:∀(i j:Int) (t u:Tok) (s:Shared) (Q:Aa) (E:Aa),Q (.bool (g i j)) s->wpAny (model X.prog X.w) X.A (f (.int i t) (.int j u)) Q E s) :
  bf X f (iK λi j=>.bl (g i j)):=by
 intro pins s U H x y v u Q I rx ry h
 obtain ⟨i,j,rfl,rfl,q⟩:=h
 obtain ⟨t,rfl⟩:=rx
 obtain ⟨t',rfl⟩:=ry
 exact rule i j t t' s _ _ ⟨.bl (g i j),H,I,rfl,q⟩
def u7 (i j:Int):Prop:=0<=j/\j<=1000000/\i.natAbs<2 ^ 64
def nF (i j:Int):Prop:=(-(2 ^ 64)<i/\i<2 ^ 64)\/(-(2 ^ 64)<j/\j<2 ^ 64)
def nF.ok {i j:Int}(h:nF i j):IntMulOk i j:=by
 rcases h with ⟨h1,h2⟩|⟨h1,h2⟩
 ·exact .of_left (intBits_le_64 h1 h2)
 ·exact .of_right (intBits_le_64 h1 h2)
def KQ (k:Nat):(0:Int)<=2 ^ k:=by
 rw [two_pow_cast]
 exact Int.natCast_nonneg _
def KR:bf X (binaryOp .Add) (iK λi j=>.int (i+j)):=r9 λ_ _ _ _ _ _ _ q=>add_int q
def KS:bf X (binaryOp .Sub) (iK λi j=>.int (i-j)):=r9 λ_ _ _ _ _ _ _ q=>sub_int q
def KU:bf X (binaryOp .Mult) (rI nF λi j=>.int (i*j)):=opI λ_ _ _ _ _ _ _ hc q=>mul_int q hc.ok
def KW:bf X (binaryOp .Mod) (rI (λ_ j=>j≠0) λi j=>.int (i.fmod j)):=opI λ_ _ _ _ _ _ _ hc q=>mod_int' hc q
def KY:bf X (binaryOp .Pow) (rI u7 λi j=>.int (i ^ j.toNat)):=opI λ_ _ _ _ _ _ _ hc q=>pow_int_small hc.1 hc.2.1 hc.2.2 q
def KZ:bf X (binaryOp .LShift) (rI u7 λi j=>.int (i*2 ^ j.toNat)):=opI λ_ _ _ _ _ _ _ hc q=>lshift_int_small hc.1 hc.2.1 hc.2.2 q
def K0:bf X (binaryOp .RShift) (rI (λ_ j=>0<=j) λi j=>.int (i/2 ^ j.toNat)):=opI λi j _ _ _ _ _ hc q =>
 rshift_int hc (by rw [Int.fdiv_eq_ediv_of_nonneg i (KQ _)];exact q)
def K4:bf X (binaryOp .BitAnd) (iK λi j=>.int (Builtin.bitAnd i j)):=r9 λ_ _ _ _ _ _ _ q=>and_int q
def K5:bf X (binaryOp .BitOr) (iK λi j=>.int (Builtin.bitOr i j)):=r9 λ_ _ _ _ _ _ _ q=>or_int q
def K6 {f:Value->Sem Value}{g:Int->Int}
  (rule:∀(i:Int) (t:Tok) (s:Shared) (Q:Aa) (E:Aa),Q (.int (g i) s.toks) { s with toks:=s.toks+1 }->wpAny (model X.prog X.w) X.A (f (.int i t)) Q E s) :
  pL X f (rU λi=>.int (g i)):=by
 intro pins s U H x v Q I rx h
 obtain ⟨i,rfl,q⟩:=h
 obtain ⟨t,rfl⟩:=rx
 exact rule i t s _ _ ⟨.int (g i),H,I.tok _,⟨_,rfl⟩,q⟩
def K7:pL X (unaryOp .USub) (rU λi=>.int (-i)):=K6 λ_ _ _ _ _ q=>neg_int q
def vF {pins:Ac}{U:St}{H:Hp}{s:Shared}{Q:VK}{k k':Bool}(I:Inv X pins U H s) (q:Q (.bl k) H) (e:k=k'):EP X pins U Q (.bool k') s:=by
 subst e
 exact ⟨.bl k,H,I,rfl,q⟩
def K8:bf X (compareOp .Lt) (iK λi j=>.bl (decide (i<j))):=CG λ_ _ _ _ _ _ _ q=>lt_int q
def K9:bf X (compareOp .Gt) (iK λi j=>.bl (decide (j<i))):=CG λ_ _ _ _ _ _ _ q=>gt_int q
def K_:bf X (compareOp .In) (λx y H Q=>∃i j,x=.str i/\y=.str j/\Q (.bl (!(Builtin.Str.occurrences j i 0 j.length 1).isEmpty)) H):=by
 intro pins s U H x y v u Q I rx ry h
 obtain ⟨i,j,rfl,rfl,q⟩:=h
 obtain ⟨t,rfl⟩:=rx
 obtain ⟨t',rfl⟩:=ry
 exact in_str (vF I q rfl)
def La:bf X (compareOp .Is) (λx y H Q=>y=.non/\Q (.bl (decide (x=.non))) H):=by
 intro pins s U H x y v u Q I rx ry h
 obtain ⟨rfl,q⟩:=h
 cases ry
 refine is_none_gen (vF I q ?_)
 cases x<;>first
  | (cases rx;rfl)
  | (obtain ⟨t,rfl⟩:=rx;rfl)
def Lb:bf X (compareOp .IsNot) (λx y H Q=>y=.non/\Q (.bl (!decide (x=.non))) H):=by
 intro pins s U H x y v u Q I rx ry h
 obtain ⟨rfl,q⟩:=h
 cases ry
 refine isnot_none_gen (vF I q ?_)
 cases x<;>first
  | (cases rx;rfl)
  | (obtain ⟨t,rfl⟩:=rx;rfl)
def bf.or {f:Value->Value->Sem Value}{r r':R2}(h:bf X f r) (h':bf X f r'):bf X f (λx y H Q=>r x y H Q\/r' x y H Q):=by
 intro pins s U H x y v u Q I rx ry q
 rcases q with q|q
 ·exact h pins s U H x y v u Q I rx ry q
 ·exact h' pins s U H x y v u Q I rx ry q
def nG (b:Expr) {op:CmpOp}(h:op ≠ .In:=by decide) (h2:op ≠ .NotIn:=by decide):behindInMarks op b=false:=by
 have e1:(op==CmpOp.In)=false:=by cases op<;>first|rfl|exact absurd rfl h
 have e2:(op==CmpOp.NotIn)=false:=by cases op<;>first|rfl|exact absurd rfl h2
 cases b<;>simp [behindInMarks,e1,e2]
def Lc {op:CmpOp}{r:R2}(ho:bf X (compareOp op) r) (ha:PE X a ta) (hb:PE X b tb) (hm:behindInMarks op b=false):PE X (.Compare a [op] [b] pos) (pM r ta tb):=by
 intro pins s U H Q I h
 exact wpAny_Compare1 (pN ha hb I h λv u s2 x y H2 I2 rx ry q=>ho pins s2 U H2 x y v u Q I2 rx ry q) hm
def Ld (t:TE):TT:=λU H Q=>t U H λx H'=>∃k,x=.bl k/\Q k H'
def Le {op:CmpOp}{r:R2}(ho:bf X (compareOp op) r) (ha:PE X a ta) (hb:PE X b tb) (hm:behindInMarks op b=false):PT X (.Compare a [op] [b] pos) (Ld (pM r ta tb)):=by
 intro pins s U H Q I h
 refine wpAny_isTrue_Compare1 (aO (ha pins s U H _ I h) λv s1 ⟨x,H1,I1,r1,q1⟩=>aO (hb pins s1 U H1 _ I1 q1) λu s2 ⟨y,H2,I2,r2,q2⟩ =>
  aO (ho pins s2 U H2 x y v u _ I2 r1 r2 q2) λc s3 ⟨z,H3,I3,r3,k,e,q3⟩=>?_) hm
 subst e
 cases r3
 exact kh ⟨H3,I3,q3⟩
def pO:(sizeLine:Nat)<2 ^ 63:=by rw [sizeLine_eq];decide
def Lf:bf X (binaryOp .Add) (λx y H Q=>∃i j,x=.str i/\y=.str j/\i.length+j.length<=sizeLine/\Q (.str (i++j)) H):=by
 intro pins s U H x y v u Q I rx ry h
 obtain ⟨i,j,rfl,rfl,hz,q⟩:=h
 obtain ⟨t,rfl⟩:=rx
 obtain ⟨t',rfl⟩:=ry
 exact add_str (λt' tk=>⟨.str (i++j),H,I.tok _,⟨_,rfl⟩,q⟩) hz
def lX {x:V}{us:Af}(r:Vals [x] us):∃u,us=[u]/\RelV x u:=by
 cases r with
 | cons r1 r2=>cases r2;exact ⟨_,rfl,r1⟩
def vG {x y:V}{us:Af}(r:Vals [x,y] us):∃u w',us=[u,w']/\RelV x u/\RelV y w':=by
 cases r with
 | cons r1 r2 =>
  cases r2 with
  | cons r3 r4=>cases r4;exact ⟨_,_,rfl,r1,r3⟩
def Lg (hc:X.calm=true):bZ X (.builtin "min") (λxs H Q=>∃i j,xs=[.int i,.int j]/\Q (.int (if j<i then j else i)) H):=by
 intro pins s U H xs us Q I r h
 obtain ⟨i,j,rfl,q⟩:=h
 obtain ⟨u,w',rfl,⟨t,rfl⟩,⟨t',rfl⟩⟩:=vG r
 refine min_two_ints (I.ok.hd hc) λh' tk k=>⟨_,H,I.kept k,?_,q⟩
 by_cases hj:j<i
 ·rw [zF hj,zF hj];exact ⟨_,rfl⟩
 ·rw [zR hj,zR hj];exact ⟨_,rfl⟩
def Lh:bZ X (.type "str") (λxs H Q=>∃i,xs=[.int i]/\i.natAbs.log2<1920/\Q (.str (toString i)) H):=by
 intro pins s U H xs us Q I r h
 obtain ⟨i,rfl,hz,q⟩:=h
 obtain ⟨u,rfl,t,rfl⟩:=lX r
 exact PySem.P.str_of_int hz ⟨.str _,H,I.tok _,⟨_,rfl⟩,q⟩
def CH (K:PySem.W.Frag) (x:V) (H:Hp) (n:Nat):Prop :=
 match x with
 | .str y=>y.length<=sizeLine/\n=y.length
 | .byt y=>y.size<=sizeLine/\n=y.size
 | .ref p=>(∃xs,aZ K H p xs/\n=xs.length)\/∃xs,a5 K H p xs/\n=xs.length
 | _=>False
theorem Lj:bZ X (.builtin "len") (λxs H Q=>∃x n,xs=[x]/\CH X.K x H n/\Q (.int n) H):=by
 intro pins s U H xs us Q I r h
 obtain ⟨x,n,rfl,e,q⟩:=h
 obtain ⟨u,rfl,rx⟩:=lX r
 have hl:=pO
 have hs:sizeLine=16777216:=sizeLine_eq
 cases x with
 | str y =>
  obtain ⟨t,rfl⟩:=rx
  obtain ⟨hy,e'⟩:y.length<=sizeLine/\n=y.length:=e
  subst e'
  exact len_str (by omega) ⟨.int _,H,I.tok _,⟨_,rfl⟩,q⟩
 | byt y =>
  obtain ⟨t,rfl⟩:=rx
  obtain ⟨hy,e'⟩:y.size<=sizeLine/\n=y.size:=e
  subst e'
  exact PySem.W.len_bytes (by omega) ⟨.int _,H,I.tok _,⟨_,rfl⟩,q⟩
 | ref p =>
  cases rx
  have e':(∃xs,aZ X.K H p xs/\n=xs.length)\/∃xs,a5 X.K H p xs/\n=xs.length:=e
  rcases e' with ⟨xs,hx,e'⟩|⟨xs,hx,e'⟩
  ·subst e'
   obtain ⟨its,r',pl,hz⟩:=I.list hx
   have hlen:=r'.length
   exact Calls.call_len_list pl.isList (by simp only [yV];omega) ⟨.int xs.length,H,I.tok _,⟨_,by simp only [yV];rw [hlen]⟩,q⟩
  ·subst e'
   obtain ⟨its,r',pl,hz⟩:=I.tuple hx
   have hlen:=r'.length
   exact len_tuple pl (by simp only [yV];omega) ⟨.int xs.length,H,I.tok _,⟨_,by simp only [yV];rw [hlen]⟩,q⟩
 | _=>exact (show False from e).elim
end
structure gE (h:Heap) (x dx C:Addr) (mA:Ab):Prop where
 obj:h.get? x=some (PySem.W.instObj C dx)
 ns:h.Ns1 dx mA
 ne:dx≠x
def CI {h:Heap}{dx:Addr}{mA:Ab}(n:h.Ns1 dx mA):∃od,h.get? dx=some od/\∀name,PySem.W.lookIn name od=some (mA name):=by
 obtain ⟨o,es,ep,ho,hd,hk,_,hm⟩:=n
 refine ⟨o,ho,λname=>?_⟩
 have e:=hm name
 unfold nsFind findBy at e
 rw [<-Array.find?_toList] at e
 unfold PySem.W.lookIn
 rw [hd]
 dsimp only
 split
 ·rename_i y q
  rw [q] at e
  exact congrArg some e
 ·rename_i q
  rw [q] at e
  have a:es.toList.any (·.refKey)=false:=by
   rw [List.any_eq_false]
   intro y hy
   obtain ⟨z,t,nH⟩:=hk y (Array.mem_toList_iff.mp hy)
   simp [DictEntry.refKey,nH]
  have a':¬es.toList.any (·.refKey)=true:=by rw [a];exact Bool.false_ne_true
  rw [zR a']
  exact congrArg some e
def gE.look {h:Heap}{x dx C:Addr}{mA:Ab}(I:gE h x dx C mA):∃od,PySem.W.InstAt h x (PySem.W.instObj C dx) C (some od)/\∀name,PySem.W.lookIn name od=some (mA name) :=
 let ⟨od,ho,hl⟩:=CI I.ns
 ⟨od,⟨I.obj,rfl,rfl,ho⟩,hl⟩
section
variable {prog:Program}{w:World}{A:Around}{E:Aa}{s:Shared}{K:PySem.W.Frag}{x dx C f:Addr}{mA:Ab}{name:Str}{v:Value}
def Lk {expr:Bool}{Q:Aa}(X:K.In s.heap) (I:gE s.heap x dx C mA) (hg:PySem.W.plainGet K C name=true) (hh:PySem.W.hasDictIn K C=true)
  (ha:PySem.W.findIn K (.ref C) name=some none) (hv:mA name=some v) (se:PySem.W.handedIn v=true) (h:Q v { s with toks:=s.toks+1 }) :
  wpAny (model prog w) A (getAttr (.ref x) name expr) Q E s:=by
 obtain ⟨od,J,hl⟩:=I.look
 exact PySem.W.get_value X J (PySem.W.plainGet_of hg).1 (PySem.W.findObj_own hh ha rfl (by rw [hl,hv])) se h
def Ll {pl:Sem Bool}{Q:Value×List Value->Shared->Prop}(X:K.In s.heap) (I:gE s.heap x dx C mA) (hg:PySem.W.plainGet K C name=true)
  (hf:PySem.W.findIn K (.ref C) name=some (some (.ref f))) (ht:PySem.W.isFn K (.ref f)=true) (hv:mA name=none) (h:Q (.ref f,[.ref x]) s) :
  wpAny (model prog w) A (getMethod (.ref x) name pl) Q E s:=by
 obtain ⟨od,J,hl⟩:=I.look
 exact PySem.W.method_fn X J (PySem.W.plainGet_of hg).1 (PySem.W.plainGet_of hg).2 hf (beq_iff_eq.mp ht) (by show (PySem.W.lookIn name od).map (·.isSome)=some false;rw [hl,hv];rfl) h
theorem Lm {ns:Ad}{Q:Unit->Shared->Prop}(X:K.In s.heap) (I:gE s.heap x dx C mA)
  (hs:PySem.W.findIn K (.ref C) "__setattr__" = some (some (.builtin "object.__setattr__"))) (hp:PySem.W.plainOver K C=true) (ht:PySem.W.takerIn K C name=some none) (hh:PySem.W.hasDictIn K C=true)
  (hw:PySem.Within mA ns) (hsz:ns.length<=sizeLine)
  (h:∀h',gE h' x dx C (λy=>if y=name then some v else mA y)->Heap.SameBut dx s.heap h'->Q () { s with heap:=h',toks:=s.toks+2 }) :
  wpAny (model prog w) A (setAttr (.ref x) name v) Q E s:=by
 obtain ⟨od,J,hl⟩:=I.look
 refine PySem.W.set_plain X J hs (PySem.W.osa_open (s:={ s with toks:=s.toks+1 }) (r:=none) X J hp ht λb=>?_)
 obtain ⟨cd,hc,gz⟩:=PySem.W.any_some hh
 have hx:s.heap.get? x=some ⟨.ref C,some dx,.plain,#[]⟩:=I.obj
 refine zA (yg (zA (zA (wpAny_loadPart hx (zA (PySem.W.Looks.here (s:={ s with toks:=s.toks+1 }) (PySem.W.looks_clsIn X hc) ?_))))))
 rw [gz]
 refine yg (a:=some dx) (zA (yg (zA ?_)))
 refine wpAny_nsSet1 (s:={ s with toks:=s.toks+1 }) I.ns λh' fA lY=>?_
 obtain ⟨oD,Wf,Wg,Lo,Lp,Lq⟩:=fA.count (PySem.Within.cons name v hw)
 refine zA (wpAny_lookBehind Lo (by rw [Lp];exact pastItsLine_dict (jr Lq (by rw [jt];omega))) ?_)
 exact yg (h _ ⟨(lY.2 _ (ja I.ne)).trans I.obj,fA,I.ne⟩ lY)
def Lr {R:Result->Shared->Prop}{vs:Af}{kw:List (Str×Value)}(X:K.In s.heap) (hm:PySem.W.makesIn K C=true)
  (hi:PySem.W.findIn K (.ref C) "__init__" = some (some (.ref f))) (hf:PySem.W.typeIn K (.ref f)=some (.type "function"))
  (h:codeAny (model prog w) (A.under (.builtin "type.__call__" ⟨.ref C::vs,kw⟩)) (.call (.ref f) ⟨.ref (s.heap.objs.size+1)::vs,kw⟩) (PySem.W.InitBack (s.heap.objs.size+1) R)
   { s with heap:=(s.heap.push PySem.W.emptyDict).push (PySem.W.instObj C s.heap.objs.size) }) :
  codeAny (model prog w) A (.call (.ref C) ⟨vs,kw⟩) R s:=by
 obtain ⟨hh,g,d,t,os⟩:=s
 exact PySem.W.make_core (PySem.W.makes_of X hm) (PySem.W.looks_findIn X hi) (λself=>PySem.W.bind_fn X self hf) (.inl rfl) h
end
def cw (f:Str) (v:V):List (Str×V)->List (Str×V)
 | []=>[(f,v)]
 | (g,x)::r=>if g=f then (g,v)::r else (g,x)::cw f v r
theorem CJ (f g:Str) (v:V):∀fs:List (Str×V),(cw f v fs).lookup g=if g=f then some v else fs.lookup g
 | []=>by
  show List.lookup g [(f,v)]=_
  by_cases h:g=f
  ·have hb:(g==f)=true:=beq_iff_eq.mpr h
   simp only [List.lookup,hb,zF h]
  ·have hb:(g==f)=false:=beq_eq_false_iff_ne.mpr h
   simp only [List.lookup,hb,zR h]
 | (k,x)::r=>by
  have ih:=CJ f g v r
  rw [show cw f v ((k,x)::r)=(if k=f then (k,v)::r else (k,x)::cw f v r) from rfl]
  by_cases hk:k=f
  ·rw [zF hk]
   by_cases h:g=k
   ·have hb:(g==k)=true:=beq_iff_eq.mpr h
    simp only [List.lookup,hb,zF (h.trans hk)]
   ·have hb:(g==k)=false:=beq_eq_false_iff_ne.mpr h
    simp only [List.lookup,hb,zR (λe:g=f=>h (e.trans hk.symm))]
  ·rw [zR hk]
   by_cases h:g=k
   ·have hb:(g==k)=true:=beq_iff_eq.mpr h
    simp only [List.lookup,hb,zR (λe:g=f=>hk (h.symm.trans e))]
   ·have hb:(g==k)=false:=beq_eq_false_iff_ne.mpr h
    simp only [List.lookup,hb]
    exact ih
theorem vH (f:Str) (v:V):∀fs:List (Str×V),f∈(cw f v fs).map (·.1)/\∀g,g∈fs.map (·.1)->g∈(cw f v fs).map (·.1)
 | []=>⟨by simp [cw],λg h=>by simp at h⟩
 | (k,x)::r=>by
  obtain ⟨i1,i2⟩:=vH f v r
  rw [show cw f v ((k,x)::r)=(if k=f then (k,v)::r else (k,x)::cw f v r) from rfl]
  by_cases hk:k=f
  ·rw [zF hk]
   subst hk
   exact ⟨by simp,λg h=>by simpa using h⟩
  ·rw [zR hk]
   refine ⟨?_,λg h=>?_⟩
   ·rw [yo]
    exact yX _ i1
   ·rw [yo] at h ⊢
    rcases yz.mp h with e|e
    ·exact yz.mpr (.inl e)
    ·exact yX _ (i2 g e)
theorem CK (f:Str) (v:V):∀fs:List (Str×V),(cw f v fs).length<=fs.length+1
 | []=>by simp [cw]
 | (k,x)::r=>by
  have ih:=CK f v r
  rw [show cw f v ((k,x)::r)=(if k=f then (k,v)::r else (k,x)::cw f v r) from rfl]
  by_cases hk:k=f
  ·rw [zF hk,jt,jt];omega
  ·rw [zR hk,jt,jt];omega
def cE.some_of {v:V}{o:Option Value}(r:cE (some v) o):∃u,o=some u/\RelV v u:=by
 cases o with
 | none=>exact (show False from r).elim
 | some u=>exact ⟨u,rfl,r⟩
def cE.none_of {o:Option Value}(r:cE none o):o=none:=by
 cases o with
 | none=>rfl
 | some u=>exact (show False from r).elim
def CL {v:V}{u:Value}(r:RelV v u):PySem.W.handedIn u=true:=by
 cases v with
 | non=>cases (show u=Value.none from r);rfl
 | bl b=>cases (show u=Value.bool b from r);rfl
 | int i=>obtain ⟨t,e⟩:=(show ∃t,u=Value.int i t from r);cases e;rfl
 | str x=>obtain ⟨t,e⟩:=(show ∃t,u=Value.str x t from r);cases e;rfl
 | byt b=>obtain ⟨t,e⟩:=(show ∃t,u=Value.bytes b t from r);cases e;rfl
 | flt b=>obtain ⟨t,e⟩:=(show ∃t,u=Value.float b t from r);cases e;rfl
 | ref a=>cases (show u=Value.ref a from r);rfl
 | ty n=>cases (show u=Value.type n from r);rfl
section
variable {P:Program}{w:World}{H H':Hp}{h h':Heap}{a C dx:Addr}{fs JN:List (Str×V)}
def sf (hok:cj P w H h) (e:H a=some (.ins C dx fs)):∃mA,gE h a dx C mA/\(∀f,cE (fs.lookup f) (mA f))/\PySem.Within mA (fs.map (·.1))/\fs.length<=1000/\H dx=some (.own a):=by
 obtain ⟨d,z,ne,ob,mA,n,r,q⟩:=(show aQ P w H h a (.ins C dx fs) from hok a _ e)
 exact ⟨mA,⟨ob,n,ne⟩,r,q,z,d⟩
end
structure fB (K:PySem.W.Frag) (C:Addr):Prop where
 pg:PySem.W.plainGet K C Str.empty=true
 hd:PySem.W.hasDictIn K C=true
 po:PySem.W.plainOver K C=true
 sa:PySem.W.findIn K (.ref C) "__setattr__" = some (some (.builtin "object.__setattr__"))
def fB.get {K:PySem.W.Frag}{C:Addr}(c:fB K C) (f:Str):PySem.W.plainGet K C f=true:=c.pg
def dr (K:PySem.W.Frag) (C:Addr) (f:Str):Prop:=PySem.W.findIn K (.ref C) f=some none
def dr.taker {K:PySem.W.Frag}{C:Addr}{f:Str}(n:dr K C f):PySem.W.takerIn K C f=some none:=by
 unfold PySem.W.takerIn
 rw [show PySem.W.findIn K (.ref C) f=some none from n]
 rfl
structure Wh (K:PySem.W.Frag) (C:Addr) (f:Str) (v:V) (u:Value):Prop where
 at_:PySem.W.findIn K (.ref C) f=some (some u)
 rel:RelV v u
 get:PySem.W.specialIn K u "__get__" = some none
 cp:PySem.W.copiedNames.contains f=false
structure Meth (K:PySem.W.Frag) (C:Addr) (m:Str) (f:Addr):Prop where
 at_:PySem.W.findIn K (.ref C) m=some (some (.ref f))
 fn:PySem.W.isFn K (.ref f)=true
 kp:PySem.W.keepIn K (.ref f)=true
section
variable {X:Cx}{pins:Ac}{U:St}{H:Hp}{s:Shared}{a C dx:Addr}{fs:List (Str×V)}{f:Str}{v:V}{A:Around}{E:Aa}
def Ls {b:Bool}{Q:Aa}(I:Inv X pins U H s) (e:H a=some (.ins C dx fs)) (c:fB X.K C) (n:dr X.K C f) (l:fs.lookup f=some v)
  (h:∀u s',Inv X pins U H s'->RelV v u->Q u s'):wpAny (model X.prog X.w) A (getAttr (.ref a) f b) Q E s:=by
 obtain ⟨mA,O,r,_,_,_⟩:=sf I.hok e
 obtain ⟨u,hu,ru⟩:=cE.some_of (v:=v) (o:=mA f) (by rw [<-l];exact r f)
 exact Lk I.kIn O (c.get f) c.hd n hu (CL ru) (h u _ (I.tok _) ru)
def Lu {m:Str}{g:Addr}{pl:Sem Bool}{Q:Value×List Value->Shared->Prop}(I:Inv X pins U H s) (e:H a=some (.ins C dx fs)) (c:fB X.K C) (k:Meth X.K C m g) (l:fs.lookup m=none)
  (h:Q (.ref g,[.ref a]) s):wpAny (model X.prog X.w) A (getMethod (.ref a) m pl) Q E s:=by
 obtain ⟨mA,O,r,_,_,_⟩:=sf I.hok e
 have hn:mA m=none:=cE.none_of (by rw [<-l];exact r m)
 exact Ll I.kIn O (c.get m) k.at_ k.fn hn h
theorem Lv {y:V}{u:Value}{Q:Unit->Shared->Prop}(I:Inv X pins U H s) (e:H a=some (.ins C dx fs)) (c:fB X.K C) (n:dr X.K C f) (hl:fs.length<1000) (ry:RelV y u)
  (h:∀s',Inv X pins U (upd H a (.ins C dx (cw f y fs))) s'->Q () s'):wpAny (model X.prog X.w) A (setAttr (.ref a) f u) Q E s:=by
 obtain ⟨mA,O,r,wi,_,ho⟩:=sf I.hok e
 have hz:(fs.map (·.1)).length<=sizeLine:=by rw [yM,sizeLine_eq];omega
 refine Lm I.kIn O c.sa c.po n.taker c.hd wi hz λh' O' sb=>h _ ?_
 have hd:∃o,h'.get? dx=some o:=let ⟨o,_,_,e',_⟩:=O'.ns;⟨o,e'⟩
 refine I.write (x:=a) (e:=dx) (by rw [e];exact True.intro) (.inr ho) (λb q hb z=>(sb.2 b hb).trans z) hd ?_
 refine ⟨by rw [yE O.ne];exact ho,?_,O.ne,O'.obj,_,O'.ns,λg=>?_,λg hg=>?_⟩
 ·have:=CK f y fs;omega
 ·show cE ((cw f y fs).lookup g) (if g=f then some u else mA g)
  rw [CJ]
  by_cases q:g=f
  ·rw [zF q,zF q];exact ry
  ·rw [zR q,zR q];exact r g
 ·by_cases q:g=f
  ·rw [q];exact (vH f y fs).1
  ·refine (vH f y fs).2 g (wi g λz=>hg ?_)
   show (if g=f then some u else mA g)=none
   rw [zR q];exact z
def Inv.made (I:Inv X pins U H s):Inv X pins U (upd (upd H s.heap.objs.size (.own (s.heap.objs.size+1))) (s.heap.objs.size+1) (.ins C s.heap.objs.size []))
  { s with heap:=(s.heap.push PySem.W.emptyDict).push (PySem.W.instObj C s.heap.objs.size) }:=by
 have e1:(s.heap.push PySem.W.emptyDict).get? s.heap.objs.size=some PySem.W.emptyDict:=jq s.heap rfl
 have e2:((s.heap.push PySem.W.emptyDict).push (PySem.W.instObj C s.heap.objs.size)).get? (s.heap.objs.size+1)=some (PySem.W.instObj C s.heap.objs.size):=by
  have:=jq (s.heap.push PySem.W.emptyDict) (o:=PySem.W.instObj C s.heap.objs.size) rfl
  rwa [Heap.size_push] at this
 have e3:(s.heap.push PySem.W.emptyDict).Ns s.heap.objs.size (λ_=>none):=⟨PySem.W.emptyDict,#[],_,e1,rfl,(λe he=>absurd he (by simp)),λ_=>rfl⟩
 have I1:=I.laid (a:=s.heap.objs.size) (o:=.own (s.heap.objs.size+1)) (h':=s.heap.push PySem.W.emptyDict) (t':=s.toks) (λb u q=>yC _ q) (yk _) ⟨_,e1⟩
 refine I1.laid (a:=s.heap.objs.size+1) (o:=.ins C s.heap.objs.size []) (t':=s.toks) (λb u q=>yC _ q) (Nat.le_of_eq (Heap.size_push _ _)) ?_
 have ne:s.heap.objs.size≠s.heap.objs.size+1:=jg (wv _)
 refine ⟨by rw [yE ne,jh],js _,ne,e2,λ_=>none,(Heap.Ns1.of_empty e3).at λo q=>yC _ q,λ_=>True.intro,λy hy=>absurd rfl hy⟩
def Lw {prog:Program}{w:World}{env:Env}{e:Expr}{f:Str}{pos:Pos}{s:Shared}{Q:Aa}(hb:attributeBase e f env (eval e env)=eval e env)
  (h:wpAny (model prog w) A (eval e env) (λo ak=>wpAny (model prog w) A (getAttr o f true) Q E ak) E s):wpAny (model prog w) A (eval (.Attribute e f pos) env) Q E s :=
 Attribute_any_ h (by rw [arm_eval_Attribute,hb])
end
def sFld (K:PySem.W.Frag) (ta tv:TE) (f:Str):TS:=λD U H=>tv U H λy H1=>ta U H1 λx H2=>∃a C dx fs,x=.ref a/\H2 a=some (.ins C dx fs)/\fB K C/\dr K C f/\fs.length<1000 /\
 D.nx U (upd H2 a (.ins C dx (cw f y fs)))
section
variable {X:Cx}{o e value:Expr}{f:Str}{pos pos' CM:Pos}{ta tv:TE}
def Lx (ha:PE X o ta) (hv:PE X value tv) (hs:swapsWith value (some (.Attribute o f pos')) pos.line X.env=pure false):PS X (.Assign [.Attribute o f pos'] value pos) (sFld X.K ta tv f):=by
 intro pins s U H D I h
 refine plainObj_wpAny_Assign_Attribute (aO (hv pins s U H _ I h) λu s1 ⟨y,H1,I1,ry,q⟩=>aO (ha pins s1 U H1 _ I1 q) λov s2 ⟨x,H2,I2,rx,a,C,dx,fs,ex,ea,c,n,l,q2⟩=>?_) hs
 subst ex
 obtain rfl:ov=Value.ref a:=rx
 exact Lv I2 ea c n l ry λs3 I3=>⟨U,_,I3,q2⟩
end
section
variable {X:Cx}{pins:Ac}{U:St}{H:Hp}{s:Shared}{A:Around}{E:Aa}{Q:Aa}{c:Value}{b:Bool}
inductive dC (K:PySem.W.Frag) (H:Hp):V->Value->Prop where
 | non:dC K H .non (.type "NoneType")
 | bl (x:Bool):dC K H (.bl x) (.type "bool")
 | int (i:Int):dC K H (.int i) (.type "int")
 | str (x:Str):dC K H (.str x) (.type "str")
 | flt (x:UInt64):dC K H (.flt x) (.type "float")
 | lst {a:Addr} {xs:List V} (e:H a=some (.lst xs)):dC K H (.ref a) (.type "list")
 | frz {a:Addr} {o:Obj} {xs:List V} (e:H a=some (.frz o (.lst xs))):dC K H (.ref a) (.type "list")
 | tup {a:Addr} {xs:List V} (e:H a=some (.tup xs)):dC K H (.ref a) (.type "tuple")
 | dK {a:Addr} {kvs:List (Key×V)} (e:H a=some (.dK kvs)):dC K H (.ref a) (.type "dict")
 | dT {a:Addr} {kvs:List (List Key×V)} (e:H a=some (.dT kvs)):dC K H (.ref a) (.type "dict")
 | ins {a C dx:Addr} {fs:List (Str×V)} (e:H a=some (.ins C dx fs)) (cl:fB K C) (ha:PySem.W.findIn K (.ref C) "__class__" = some (some (.builtin "object.__class__")))
   (hn:PySem.W.specialIn K (.builtin "object.__class__") "__get__" = some (some (.builtin "getset_descriptor.__get__"))) (CN:PySem.W.takesIn K (.builtin "object.__class__")=some true)
   (hm:PySem.W.mroIn K C (.type "object")=some true):dC K H (.ref a) (.ref C)
def Ly {x:V}{u t:Value}(I:Inv X pins U H s) (rx:RelV x u) (ty:dC X.K H x t) (e:PySem.W.kitOne X.K t c=some b) (h:∀tk,Q (.bool b) { s with toks:=tk }) :
  wpAny (model X.prog X.w) A (call (.builtin "isinstance") [u,c]) Q E s:=by
 cases ty with
 | non=>cases (show u=Value.none from rx);exact PySem.W.kia_one PySem.W.kitx_none I.kIn True.intro e (λz=>nomatch z) h
 | bl y=>cases (show u=Value.bool y from rx);exact PySem.W.kia_one PySem.W.kitx_bool I.kIn True.intro e (λz=>nomatch z) h
 | int i=>obtain ⟨t,q⟩:=(show ∃t,u=Value.int i t from rx);cases q;exact PySem.W.kia_one PySem.W.kitx_int I.kIn True.intro e (λz=>nomatch z) h
 | str y=>obtain ⟨t,q⟩:=(show ∃t,u=Value.str y t from rx);cases q;exact PySem.W.kia_one PySem.W.kitx_str I.kIn True.intro e (λz=>nomatch z) h
 | flt y=>obtain ⟨t,q⟩:=(show ∃t,u=Value.float y t from rx);cases q;exact PySem.W.kia_one PySem.W.kitx_float I.kIn True.intro e (λz=>nomatch z) h
 | @lst a xs ea =>
  cases (show u=Value.ref a from rx)
  obtain ⟨_,_,n,_,h1⟩:=(show aQ X.prog X.w H s.heap a (.lst xs) from I.hok a _ ea)
  exact PySem.W.kia_one PySem.W.kitx_list I.kIn ⟨_,h1,rfl⟩ e (λz=>nomatch z) h
 | @frz a ob xs ea =>
  cases (show u=Value.ref a from rx)
  obtain ⟨_,_,_,n,_,h1⟩:=(show aQ X.prog X.w H s.heap a (.frz ob (.lst xs)) from I.hok a _ ea)
  exact PySem.W.kia_one PySem.W.kitx_list I.kIn ⟨_,h1,rfl⟩ e (λz=>nomatch z) h
 | @tup a xs ea =>
  cases (show u=Value.ref a from rx)
  obtain ⟨_,_,_,p⟩:=(show aQ X.prog X.w H s.heap a (.tup xs) from I.hok a _ ea)
  obtain ⟨o,h1,h2,_⟩:=p
  exact PySem.W.kia_one PySem.W.kitx_tuple I.kIn ⟨o,h1,h2⟩ e (λz=>nomatch z) h
 | @dK a kvs ea =>
  cases (show u=Value.ref a from rx)
  obtain ⟨_,_,vs,_,p⟩:=(show aQ X.prog X.w H s.heap a (.dK kvs) from I.hok a _ ea)
  obtain ⟨o,es,ep,h1,h2,_⟩:=p
  exact PySem.W.kia_one PySem.W.kitx_dict I.kIn ⟨o,h1,h2.1⟩ e (λz=>nomatch z) h
 | @dT a kvs ea =>
  cases (show u=Value.ref a from rx)
  obtain ⟨_,_,xs,_,o,es,ep,h1,h2,_⟩:=(show aQ X.prog X.w H s.heap a (.dT kvs) from I.hok a _ ea)
  exact PySem.W.kia_one PySem.W.kitx_dict I.kIn ⟨o,h1,h2.1⟩ e (λz=>nomatch z) h
 | @ins a C dx fs ea cl ha hn CN hm =>
  cases (show u=Value.ref a from rx)
  obtain ⟨mA,O,_⟩:=sf I.hok ea
  obtain ⟨od,J,_⟩:=O.look
  exact PySem.W.kia_one (PySem.W.kitx_own (cl.get _) cl.hd ha hn CN hm) I.kIn J e (λz=>nomatch z) h
end
structure bu (k:Nat) (A:Around):Prop where
 hd:A.handled=none
 dp:A.depth+3*k+5<recursionLimit
 un:A.units+16*k+200<cLine
theorem bu.mono {j k:Nat}{A:Around}(r:bu k A) (h:j<=k):bu j A:=⟨r.hd,by have:=r.dp;omega,by have:=r.un;omega⟩
theorem bu.deeper {k:Nat}{A:Around}(r:bu (k+1) A) (env:Env):bu k (A.deeper env) :=
 ⟨r.hd,by have:=r.dp;show A.depth+1+3*k+5<_;omega,by have:=r.un;show A.units+3+16*k+200<_;omega⟩
def Lz {A:Around} {C:Addr} {us:Af} {kw:List (Str×Value)}:(A.under (.builtin "type.__call__" ⟨.ref C::us,kw⟩)).depth=A.depth+1:=by
 first|rfl|simp [Around.under,Code.weight,Code.isCreation,Code.isGuard,Code.isCaller,Code.frames,Code.isFrame,guardIds]
def LA {A:Around} {C:Addr} {us:Af} {kw:List (Str×Value)}:(A.under (.builtin "type.__call__" ⟨.ref C::us,kw⟩)).units=A.units+1:=by
 first|rfl|simp [Around.under,Code.cUnits,Code.frames,Code.isFrame]
theorem bu.make {k:Nat} {A:Around} (r:bu (k+1) A) (C:Addr) (us:Af) (kw:List (Str×Value)):bu k (A.under (.builtin "type.__call__" ⟨.ref C::us,kw⟩)) :=
 ⟨r.hd,by have:=r.dp;rw [Lz];omega,by have:=r.un;rw [LA];omega⟩
theorem bu.depth {k:Nat}{A:Around}(r:bu k A):A.depth<recursionLimit:=by have:=r.dp;omega
def LB:TA:=λ_ H Q=>Q [] H
def LC (ta:TE) (tr:TA):TA:=λU H Q=>ta U H λx H1=>tr U H1 λxs H2=>Q (x::xs) H2
section
variable {X:Cx}{e:Expr}{es:List Expr}{te:TE}{t:TA}{pos:Pos}
def sh:PA X [] LB:=λ_ _ _ _ H Q I h=>Calls.spliced_nil ⟨[],H,I,.nil,h⟩
def si (ha:PE X e te) (hr:PA X es t) (hs:starEach (e::es) X.env=(false,eval e X.env)::starEach es X.env:=by rfl):PA X (e::es) (LC te t):=by
 intro pos pins s U H Q I h
 rw [hs]
 show wpAny _ _ (spliced ((false,eval e X.env)::backTo pos (starEach es X.env))) _ _ s
 refine Calls.spliced_cons (aO (ha pins s U H _ I h) λu s1 ⟨x,H1,I1,r1,q1⟩=>?_)
 exact aO (hr pos pins s1 U H1 _ I1 q1) λus s2 ⟨xs,H2,I2,r2,q2⟩=>⟨x::xs,H2,I2,.cons r1 r2,q2⟩
def LD (t:TA):TE:=λU H Q=>t U H λxs H1=>xs.length<=sizeLine/\∀p,H1 p=none->Q (.ref p) (upd H1 p (.tup xs))
def LF (t:TA):TE:=λU H Q=>t U H λxs H1=>xs.length<=sizeLine/\∀p,H1 p=none->Q (.ref p) (upd H1 p (.lst xs))
def LG {x1}(h:PA X es t):PE X (.Tuple es x1 pos) (LD t):=by
 intro pins s U H Q I hq
 refine wpAny_Tuple_spliced (aO (h pos pins s U H _ I hq) λus s1 ⟨xs,H1,I1,r,z,q⟩=>⟨by rw [<-r.length];exact z,?_⟩)
 have hf:H1 s1.heap.objs.size=none:=I1.hok.fresh (yk _)
 refine ⟨.ref s1.heap.objs.size,upd H1 s1.heap.objs.size (.tup xs),I1.laid (t':=s1.toks) (λb u e=>yC _ e) (yk _) ?_,rfl,q _ hf⟩
 exact ⟨z,us,r,⟨_,jq _ rfl,rfl,_,rfl⟩⟩
def LH (h:PA X es t):PE X (.List es pos) (LF t):=by
 intro pins s U H Q I hq
 refine wpAny_List_spliced (aO (h pos pins s U H _ I hq) λus s1 ⟨xs,H1,I1,r,z,q⟩=>⟨by rw [<-r.length];exact z,?_⟩)
 have hf:H1 s1.heap.objs.size=none:=I1.hok.fresh (yk _)
 refine ⟨.ref s1.heap.objs.size,upd H1 s1.heap.objs.size (.lst xs),I1.laid (t':=s1.toks) (λb u e=>yC _ e) (yk _) ?_,rfl,q _ hf⟩
 exact ⟨z,us,0,r,jq _ rfl⟩
end
abbrev Sp:=List V->Hp->VK->XK->Prop
abbrev fC:=List Env->Hp->Shared->XK->Aa
structure gF (P:Program) (w:World) (K:PySem.W.Frag) (mg:Ab) (base:Heap) (A:Around) (outer:List Env) (s:Shared) (H:Hp):Prop where
 frames:A.frames=some outer
 mod:Mod K mg base
 bs:∀b o,base.get? b=some o->s.heap.get? b=some o/\H b=none
 bsz:base.objs.size<=s.heap.objs.size
 funs:s.heap.FunFrames base outer
 frf:∀b∈dc outer,H b=none
 hok:cj P w H s.heap
 bare:AllBare s.gens
def CE (outer:List Env) (P:Program) (w:World) (H:Hp) (s:Shared) (Q:VK) (u:Value) (s':Shared):Prop :=
 ∃v H',s'.os=s.os/\AllBare s'.gens/\Un (dc outer) [] H H' s.heap s'.heap/\cj P w H' s'.heap/\RelV v u/\Q v H'
def CR (CX:fC) (outer:List Env) (P:Program) (w:World) (H:Hp) (s:Shared) (Q:VK) (E:XK) (r:Result) (s':Shared):Prop :=
 match r with
 | .ok (.ret u)=>CE outer P w H s Q u s'
 | .ok _=>False
 | .error e=>CX outer H s E e s'
structure bO (P:Program) (w:World) (K:PySem.W.Frag) (mg:Ab) (base:Heap) (CX:fC) (k:Nat) (f:Addr) (fd:FuncData) (ps:Ad) (sp:Sp):Prop where
 len:∀vs H Q E,sp vs H Q E->vs.length=ps.length
 run:∀(A:Around) (outer:List Env) (s:Shared) (H:Hp) (args:Args) (us:Af) (vs:List V) (Q:VK) (E:XK),bu k A->gF P w K mg base A outer s H->BindsTo s fd args (ps.zip us)->Vals vs us->sp vs H Q E ->
  codeAny (model P w) A (.call (.ref f) args) (CR CX outer P w H s Q E) s
def bO.mono {P:Program}{w:World}{K:PySem.W.Frag}{mg:Ab}{base:Heap}{CX:fC}{j k:Nat}{f:Addr}{fd:FuncData}{ps:Ad}{sp:Sp}(F:bO P w K mg base CX j f fd ps sp) (h:j<=k) :
  bO P w K mg base CX k f fd ps sp:=⟨F.len,λA outer s H args us vs Q E hr=>F.run A outer s H args us vs Q E (hr.mono h)⟩
def bO.imp {P:Program}{w:World}{K:PySem.W.Frag}{mg:Ab}{base:Heap}{CX:fC}{k:Nat}{f:Addr}{fd:FuncData}{ps:Ad}{sp CO:Sp}(F:bO P w K mg base CX k f fd ps sp)
  (h:∀vs H Q E,CO vs H Q E->sp vs H Q E):bO P w K mg base CX k f fd ps CO :=
 ⟨λvs H Q E q=>F.len vs H Q E (h _ _ _ _ q),λA outer s H args us vs Q E hr he hb hv hs=>F.run A outer s H args us vs Q E hr he hb hv (h _ _ _ _ hs)⟩
def gF.make {P:Program}{w:World}{K:PySem.W.Frag}{mg:Ab}{base:Heap}{A:Around}{outer:List Env}{s:Shared}{H:Hp}(e:gF P w K mg base A outer s H) (C:Addr) (us:Af) (kw:List (Str×Value)) :
  gF P w K mg base (A.under (.builtin "type.__call__" ⟨.ref C::us,kw⟩)) outer s H:=⟨by first|exact e.frames|(simpa [Around.under,Code.envs,Code.isFrame,pushEnvs] using e.frames),e.mod,e.bs,e.bsz,e.funs,e.frf,e.hok,e.bare⟩
section
variable {X:Cx}{pins:Ac}{U:St}{H:Hp}{s s':Shared}
def Inv.env0 (I:Inv X pins U H s):gF X.prog X.w X.K X.mg X.base X.A X.stack s H :=
 ⟨I.ok.frames,I.ok.mod,I.bs,jr I.ok.bsz I.sz,I.stack,I.stkFree,I.hok,I.bare⟩
def Inv.after {Q:VK}{u:Value}(I:Inv X pins U H s) (h:CE X.stack X.prog X.w H s Q u s'):EP X pins U Q u s':=by
 obtain ⟨v,H',os,bare,un,hok,r,q⟩:=h
 obtain ⟨hh,g,d,t,LI⟩:=s'
 obtain rfl:LI=s.os:=os
 exact ⟨v,H',I.call (h':=hh) (g':=g) (d':=d) (t':=t) (ch:=[]) un hok bare (λb z=>absurd z (by simp)),r,q⟩
end
def LJ (sp:Sp) (eA:List V) (E:XK) (t:TA):TE:=λU H Q=>t U H λvs H1=>sp (vs++eA) H1 Q E
def LK (C:Addr) (sp:Sp) (eA:List V) (E:XK) (t:TA):TE:=λU H Q=>t U H λvs H1=>∀x dx,H1 x=none->H1 dx=none->dx≠x ->
 sp (.ref x::(vs++eA)) (upd (upd H1 dx (.own x)) x (.ins C dx [])) (λv H2=>v=.non/\Q (.ref x) H2) E
def Binds (K:PySem.W.Frag) (fd:FuncData) (ps:Ad) (ds:Af):Prop :=
 ∀(s:Shared) (us:Af),K.In s.heap->(us++ds).length=ps.length->BindsTo s fd ⟨us,[]⟩ (ps.zip (us++ds))
def Binds.all {K:PySem.W.Frag}{fd:FuncData}{ps:Ad}(h:∀us:Af,us.length=ps.length->bindArgs fd ⟨us,[]⟩=pure (ps.zip us)):Binds K fd ps []:=λs us _ hl=>by
 rw [List.append_nil] at hl ⊢
 exact .of_eq (h us hl)
def Passes (CX:fC) (X:Cx) (E:XK):Prop:=∀(pins:Ac) (U:St) (H:Hp) (s:Shared) (e:Value) (s':Shared),Inv X pins U H s->CX X.stack H s E e s'->X.xe e s'
section
variable {X:Cx}{CX:fC}{k:Nat}{f C:Addr}{fd:FuncData}{ps:Ad}{sp:Sp}{eA:List V}{ds:Af}{E:XK}{x m:Str}{p pos apos:Pos}{e o:Expr}{es:List Expr}{ta:TE}{t:TA}
def CP {pins:Ac}{U:St}{H:Hp}{s:Shared}{Q:VK}{us:Af}{vs:List V}(F:bO X.prog X.w X.K X.mg X.base CX k f fd ps sp) (hr:bu k X.A) (hb:Binds X.K fd ps ds) (hd:Vals eA ds) (hx:Passes CX X E)
  (I:Inv X pins U H s) (r:Vals vs us) (h:sp (vs++eA) H Q E):wpAny (model X.prog X.w) X.A (call (.ref f) us) (EP X pins U Q) X.xe s:=by
 have r2:Vals (vs++eA) (us++ds):=r.append hd
 have hl:(us++ds).length=ps.length:=by rw [<-r2.length];exact F.len _ _ _ _ h
 refine wpAny_call (codeAny_mono (F.run X.A X.stack s H ⟨us,[]⟩ (us++ds) (vs++eA) Q E hr I.env0 (hb s us I.kIn hl) r2 h) λr s' hq=>?_)
 cases r with
 | error e=>exact hx pins U H s e s' I hq
 | ok fl =>
  cases fl with
  | ret u=>exact I.after hq
  | next=>exact hq.elim
  | brk=>exact hq.elim
  | cont=>exact hq.elim
def LL (F:bO X.prog X.w X.K X.mg X.base CX k f fd ps sp) (hr:bu k X.A) (hg:Gl X x) (hm:X.mg x=some (.ref f)) (hk:PySem.W.keepIn X.K (.ref f)=true) (hb:Binds X.K fd ps ds) (hd:Vals eA ds) (hx:Passes CX X E)
  (ha:PA X (e::es) t) (eY:(x==("__debug__" : Str))=false:=by decide) (he:starEach (e::es) X.env=(false,eval e X.env)::starEach es X.env:=by rfl) (bX:(backTo pos (starEach es X.env)).any (·.1)=false:=by rfl) :
  PE X (.Call (.Name x p) (e::es) [] pos) (LJ sp eA E t):=by
 intro pins s U H Q I h
 refine wpAny_Call_Name_kw (CA I hg hm ?_ eY)
 refine PySem.W.callWith_K (h₀:=X.base) I.ok.mod.kin hk (aO (ha pos pins s U H _ I h) λus s1 ⟨vs,H1,I1,r,q⟩=>⟨I1.kIn,?_⟩) he bX
 exact CP F hr hb hd hx I1 r q
structure Mk (K:PySem.W.Frag) (C f:Addr):Prop where
 makes:PySem.W.makesIn K C=true
 init:PySem.W.findIn K (.ref C) "__init__" = some (some (.ref f))
 fn:PySem.W.isFn K (.ref f)=true
 kp:PySem.W.keepIn K (.ref C)=true
def LM {pins:Ac}{U:St}{H:Hp}{s:Shared}{Q:VK}{us:Af}{vs:List V}(M:Mk X.K C f) (F:bO X.prog X.w X.K X.mg X.base CX k f fd ps sp) (hr:bu (k+1) X.A) (hb:Binds X.K fd ps ds) (hd:Vals eA ds)
  (hx:Passes CX X E) (I:Inv X pins U H s) (r:Vals vs us)
  (h:∀x dx,H x=none->H dx=none->dx≠x->sp (.ref x::(vs++eA)) (upd (upd H dx (.own x)) x (.ins C dx [])) (λv H2=>v=.non/\Q (.ref x) H2) E) :
  wpAny (model X.prog X.w) X.A (call (.ref C) us) (EP X pins U Q) X.xe s:=by
 have hq:=h (s.heap.objs.size+1) s.heap.objs.size (I.hok.fresh (Nat.le_succ _)) (I.hok.fresh (yk _)) (jg (wv _))
 have I2:=Inv.made (C:=C) I
 have r2:Vals (V.ref (s.heap.objs.size+1)::(vs++eA)) (Value.ref (s.heap.objs.size+1)::(us++ds)):=.cons rfl (r.append hd)
 have hl:(Value.ref (s.heap.objs.size+1)::us++ds).length=ps.length:=by
  have e:=r2.length
  rw [F.len _ _ _ _ hq] at e
  exact e.symm
 refine wpAny_call (Lr (f:=f) I.kIn M.makes M.init (beq_iff_eq.mp M.fn) (codeAny_mono (F.run _ X.stack _ _ ⟨Value.ref (s.heap.objs.size+1)::us,[]⟩ (Value.ref (s.heap.objs.size+1)::(us++ds)) _ _ E (hr.make C us [])
  (I2.env0.make C us []) (hb _ (Value.ref (s.heap.objs.size+1)::us) I2.kIn hl) r2 hq) λr s' hq'=>?_))
 cases r with
 | error e=>exact hx pins U _ _ e s' I2 hq'
 | ok fl =>
  cases fl with
  | ret u =>
   obtain ⟨v,H',I3,rv,ev,q3⟩:=I2.after hq'
   subst ev
   exact ⟨rv,⟨V.ref (s.heap.objs.size+1),H',I3,rfl,q3⟩⟩
  | next=>exact hq'.elim
  | brk=>exact hq'.elim
  | cont=>exact hq'.elim
def LO (M:Mk X.K C f) (F:bO X.prog X.w X.K X.mg X.base CX k f fd ps sp) (hr:bu (k+1) X.A) (hg:Gl X x) (hm:X.mg x=some (.ref C)) (hb:Binds X.K fd ps ds) (hd:Vals eA ds) (hx:Passes CX X E)
  (ha:PA X (e::es) t) (eY:(x==("__debug__" : Str))=false:=by decide) (he:starEach (e::es) X.env=(false,eval e X.env)::starEach es X.env:=by rfl) (bX:(backTo pos (starEach es X.env)).any (·.1)=false:=by rfl) :
  PE X (.Call (.Name x p) (e::es) [] pos) (LK C sp eA E t):=by
 intro pins s U H Q I h
 refine wpAny_Call_Name_kw (CA I hg hm ?_ eY)
 refine PySem.W.callWith_K (h₀:=X.base) I.ok.mod.kin M.kp (aO (ha pos pins s U H _ I h) λus s1 ⟨vs,H1,I1,r,q⟩=>⟨I1.kIn,?_⟩) he bX
 exact LM M F hr hb hd hx I1 r q
end
section
variable {X:Cx}{CX:fC}{k:Nat}{f C:Addr}{fd:FuncData}{ps ks:Ad}{sp:Sp}{E:XK}{x m:Str}{p pos apos V8:Pos}{e o:Expr}{es:List Expr}{Wi:List Keyword}{te ta:TE}{t tk:TA}{nm:Option Str}
structure JC (K:PySem.W.Frag) (fd:FuncData) (ps ks:Ad) (g:List Value->List Value->Af) (gV:List V->List V->List V):Prop where
 to:∀(s:Shared) (us ws:Af),K.In s.heap->(g us ws).length=ps.length->BindsTo s fd ⟨us,ks.zip ws⟩ (ps.zip (g us ws))
 rel:∀{vs:List V} {us:Af} {zs:List V} {ws:Af},Vals vs us->Vals zs ws->Vals (gV vs zs) (g us ws)
variable {g:List Value->List Value->Af}{gV:List V->List V->List V}
end
structure aq (N P:Ad) (sc:Scope):Prop where
 kind:sc.kind=.function
 co:sc.isCoroutine=false
 gen:sc.isGenerator=false
 nd:N.Nodup
 pre:N.take P.length=P
 par:∀x∈P,sc.names.lookup x=some .local\/sc.names.lookup x=some .cell
 nofree:∀y∈sc.names,y.2 ≠ .free
theorem CQ {kindOf:Str->Option NameKind}{x:Str}:∀{binds:List (Str×Value)}{m:Ab},(∀v,(x,v)∉binds)->bindL kindOf binds m x=m x
 | [],_,_=>rfl
 | (n,v)::r,m,h=>by
  unfold bindL
  rw [CQ λw hw=>h w (yX _ hw)]
  split
  ·have:x≠n:=by rintro rfl;exact h v yO
   simp [this]
  ·rfl
theorem CS {kindOf:Str->Option NameKind}{x:Str}:∀{binds:List (Str×Value)}{m:Ab},(∀v,(x,v)∉binds)->bindC kindOf binds m x=m x
 | [],_,_=>rfl
 | (n,v)::r,m,h=>by
  unfold bindC
  rw [CS λw hw=>h w (yX _ hw)]
  split
  ·rfl
  ·have:x≠n:=by rintro rfl;exact h v yO
   simp [this]
theorem CT {kindOf:Str->Option NameKind}{x:Str}{v:Value}:∀{P:Ad}{vs:Af}{i:Nat}{m:Ab},P.Nodup->P[i]?=some x->vs[i]?=some v->kindOf x=some .local ->
  bindL kindOf (P.zip vs) m x=some v
 | [],_,_,_,_,h,_,_=>by simp at h
 | _::_,[],_,_,_,_,h,_=>by simp at h
 | p::P,w::vs,0,m,nd,h1,h2,hk=>by
  simp at h1 h2;subst h1;subst h2
  show bindL kindOf ((p,w)::P.zip vs) m p=_
  unfold bindL
  rw [CQ λv hv=>(jB.mp nd).1 (List.of_mem_zip hv).1,zF hk]
  simp
 | p::P,w::vs,i+1,m,nd,h1,h2,hk=>by
  show bindL kindOf ((p,w)::P.zip vs) m x=_
  unfold bindL
  exact CT (i:=i) (jB.mp nd).2 (by simpa using h1) (by simpa using h2) hk
theorem CU {kindOf:Str->Option NameKind}{x:Str}{v:Value}:∀{P:Ad}{vs:Af}{i:Nat}{m:Ab},P.Nodup->P[i]?=some x->vs[i]?=some v->kindOf x≠some .local ->
  bindC kindOf (P.zip vs) m x=some v
 | [],_,_,_,_,h,_,_=>by simp at h
 | _::_,[],_,_,_,_,h,_=>by simp at h
 | p::P,w::vs,0,m,nd,h1,h2,hk=>by
  simp at h1 h2;subst h1;subst h2
  show bindC kindOf ((p,w)::P.zip vs) m p=_
  unfold bindC
  rw [CS λv hv=>(jB.mp nd).1 (List.of_mem_zip hv).1,zR hk]
  simp
 | p::P,w::vs,i+1,m,nd,h1,h2,hk=>by
  show bindC kindOf ((p,w)::P.zip vs) m x=_
  unfold bindC
  exact CU (i:=i) (jB.mp nd).2 (by simpa using h1) (by simpa using h2) hk
def start (N:Ad) (vs:List V):St:=vs.map some++List.replicate (N.length-vs.length) none
def d5 (CX:fC) (P:Program) (w:World) (K:PySem.W.Frag) (mg:Ab) (base:Heap) (N:Ad) (qual:Str) (scope:Scope) (f:Addr) (cd:Value) (A:Around) (outer:List Env) (s:Shared) (H:Hp) (E:XK):Cx where
 prog:=P
 w:=w
 K:=K
 mg:=mg
 base:=base
 A:=A.deeper (envOfC qual scope s.heap.objs.size f cd)
 N:=N
 s₀:=s
 H₀:=H
 env:=envOfC qual scope s.heap.objs.size f cd
 outer:=outer
 stack:=envOfC qual scope s.heap.objs.size f cd::outer
 ex:=[]
 calm:=true
 fn:=λ_=>true
 pn:=[]
 xe:=λe s'=>wpAny (model P w) (A.deeper (envOfC qual scope s.heap.objs.size f cd)) (leaving (envOfC qual scope s.heap.objs.size f cd) e) (λ_ pP=>CX outer H s E e pP) (λe' pP=>CX outer H s E e' pP) s'
def CV {sc:Scope}{n:Nat}{x:Str}(h:sc.names.lookup x=some .cell):∃c,(cellsFrom n sc.names []).lookup x=some c:=by
 have q:=PySem.W.cellsFrom_some sc.names n [] (.inl h)
 exact Option.isSome_iff_exists.mp q
theorem LP {CX:fC}{P:Program}{w:World}{K:PySem.W.Frag}{mg:Ab}{base:Heap}{N ps:Ad}{qual:Str}{scope:Scope}{f:Addr}{cd:Value}{A:Around}{outer:List Env}{s s1:Shared}{H:Hp}{E:XK}{us:Af}{vs:List V}
  (S:aq N ps scope) (hd:A.handled=none) (e0:gF P w K mg base A outer s H) (hl:vs.length=ps.length) (r:Vals vs us)
  (x:InCallC s s.heap.objs.size (bindL (envOfC qual scope s.heap.objs.size f cd).kindOf (ps.zip us) λ_=>none) (cellsFrom (s.heap.objs.size+1) scope.names []) (bindC (envOfC qual scope s.heap.objs.size f cd).kindOf (ps.zip us) λ_=>none) s1) :
  Inv (d5 CX P w K mg base N qual scope f cd A outer s H E) [] (start N vs) H s1:=by
 have bX:ps.length<=N.length:=by have:=congrArg List.length S.pre;rw [List.length_take] at this;omega
 obtain ⟨h1,tk,rfl,hk⟩:=x.done
 have pQ:∀b:Addr,b∉(d5 CX P w K mg base N qual scope f cd A outer s H E).ex:=λb z=>absurd (show b∈([]:Ae) from z) (by simp)
 refine ⟨⟨e0.mod,S.kind,rfl,rfl,yk _,λy z c h1 h2=>?_,λy hy=>?_,λy c _ h=>?_,λ_=>hd,Around.frames_deeper e0.frames,.inr ⟨rfl,rfl⟩,λb z=>absurd z (pQ b),e0.bs,e0.bsz,λb _ _=>pQ b,λb z=>absurd z (pQ b),e0.funs,e0.frf⟩,
  rfl,e0.bare,Un.kept hk,⟨_,x.toInCall.ns,λi y v h1 h2 h3=>?_⟩,λy c h=>⟨_,x.cell y c h⟩,e0.hok.fresh (yk _),λy c h=>?_,λp hp=>absurd (show p∈([]:Ac) from hp) (by simp),e0.hok.kept hk,?_⟩
 ·exact name_of_addr x.apart (PySem.mem_of_lookup h1) (PySem.mem_of_lookup h2)
 ·have hy:scope.names.lookup y=some .cell\/scope.names.lookup y=some .free:=hy
  rcases hy with hy|hy
  ·exact CV hy
  ·exact absurd rfl (S.nofree _ (PySem.mem_of_lookup hy))
 ·exact Nat.le_of_lt (x.above y c (PySem.mem_of_lookup h))
 ·have hi:i<vs.length:=by
   unfold start at h2
   by_cases hi:i<vs.length
   ·exact hi
   ·rw [iC (by simpa using hi)] at h2
    rw [List.getElem?_replicate] at h2
    split at h2<;>cases h2
  have ha:vs[i]?=some v:=by
   unfold start at h2
   rw [wQ (by simpa using hi),yI] at h2
   cases e:vs[i]? with
   | none=>rw [e] at h2;cases h2
   | some a=>rw [e] at h2;cases h2;rfl
  obtain ⟨u,hu,rv⟩:=r.get ha
  have hp:ps[i]?=some y:=by
   rw [<-S.pre,List.getElem?_take_of_lt (by omega)];exact h1
  have CW:ps.Nodup:=by rw [<-S.pre];exact S.nd.sublist (List.take_sublist _ _)
  refine ⟨u,rv,?_⟩
  rcases S.par y (jV hp) with k|k
  ·exact .inl ⟨k,CT CW hp hu k⟩
  ·obtain ⟨c,e⟩:=CV (n:=s.heap.objs.size+1) k
   refine .inr ⟨.inl k,c,e,?_⟩
   have q:=x.cell y c e
   rw [CU CW hp hu (by show scope.names.lookup y≠_;rw [k];decide)] at q
   exact q
 ·exact e0.hok.fresh (Nat.le_of_lt (x.above y c (PySem.mem_of_lookup h)))
 ·unfold start
  show _=N.length
  rw [iA,yM,List.length_replicate]
  omega
def LQ {CX:fC}{P:Program}{w:World}{K:PySem.W.Frag}{mg:Ab}{base:Heap}{k:Nat}{f:Addr}{name qual:Str}{params:Arguments}{body:List Stmt}{scope:Scope}{dV kV doc pm aV ct oc:Value}{an od:Option Addr}
  {fP:Array (Option Value)} {N ps:Ad} {sp:Sp} (lk:K.lookup f=some ⟨oc,od,.func (PySem.W.fnOf name qual params body scope dV kV doc pm an aV ct),fP⟩) (fN:PySem.W.codeIn K aV qual=true) (S:aq N ps scope)
  (len:∀vs H Q E,sp vs H Q E->vs.length=ps.length)
  (gG:∀(A:Around) (outer:List Env) (s:Shared) (H:Hp) (vs:List V) (Q:VK) (E:XK),bu k (A.deeper (envOfC qual scope s.heap.objs.size f aV))->sp vs H Q E ->
   ∃t,de (d5 CX P w K mg base N qual scope f aV A outer s H E) body t/\t { nx:=λ_ H'=>Q .non H',rt:=Q } (start N vs) H) :
  bO P w K mg base CX (k+1) f (PySem.W.fnOf name qual params body scope dV kV doc pm an aV ct) ps sp:=by
 refine ⟨len,λA outer s H args us vs Q E hr e0 hb r k9=>?_⟩
 have hl:=len _ _ _ _ k9
 have KX:K.In s.heap:=e0.mod.kin.keeps λb o e=>(e0.bs b o e).1
 have lim:s.heap.NoLimit:=e0.mod.nolimit.keeps λb o e=>(e0.bs b o e).1
 have vI:∀y∈ps.zip us,scope.names.lookup y.1=some .local\/(scope.names.lookup y.1=some .cell/\((cellsFrom (s.heap.objs.size+1) scope.names []).lookup y.1).isSome=true):=λ⟨n,v⟩ hy=>by
  rcases S.par n (List.of_mem_zip hy).1 with q|q
  ·exact .inl q
  ·exact .inr ⟨q,PySem.W.cellsFrom_some _ _ _ (.inl q)⟩
 refine codeAny_call_function hr.depth (KX _ _ lk) rfl S.co S.gen rfl (PySem.W.codeRec_of KX fN) (hb _ _ _ _ ?_)
 refine wpAny_newFunctionEnv_cells S.kind vI λenv he s1 x=>?_
 subst he
 refine ⟨lim.keeps x.toInCall.keep,codeAny_func ?_⟩
 obtain ⟨t,ht,hq⟩:=gG A outer s H vs Q E (hr.deeper _) k9
 have I:Inv (d5 CX P w K mg base N qual scope f aV A outer s H E) [] (start N vs) H s1:=LP S hr.hd e0 hl r x
 refine wj (ht [] s1 (start N vs) H _ I hq) (λfl s' hs=>?_) λe s' hs=>hs
 have fin:∀{ai:St} {H':Hp} {v:V} {u:Value},Inv (d5 CX P w K mg base N qual scope f aV A outer s H E) [] ai H' s'->RelV v u->Q v H'->CE outer P w H s Q u s' :=
  λ{ai H' v u} J rv q=>⟨v,H',J.os,J.bare,J.base,J.hok,rv,q⟩
 cases fl with
 | ret u =>
  obtain ⟨v,ai,H',J,rv,q⟩:=hs
  exact fin J rv q
 | next =>
  obtain ⟨ai,H',J,q⟩:=hs
  exact fin (v:=V.non) (u:=Value.none) J rfl q
 | brk =>
  obtain ⟨_,_,_,q⟩:=hs
  exact q.elim
 | cont =>
  obtain ⟨_,_,_,q⟩:=hs
  exact q.elim
section
variable {X:Cx}{x:Str}{p pos:Pos}{e:Expr}{es:List Expr}{t:TA}{id T:String}{r:List V->Hp->VK->Prop}
def CY (r:List V->Hp->VK->Prop) (t:TA):TE:=λU H Q=>t U H λvs H1=>r vs H1 Q
def LR (hc:bZ X (.builtin id) r) (hg:Gl X x) (hm:X.mg x=none) (hv:bootBuiltins x=some (.builtin id)) (ha:PA X (e::es) t) (hn:x ≠ "__name__" := by decide) (eY:(x==("__debug__" : Str))=false:=by decide)
  (he:starEach (e::es) X.env=(false,eval e X.env)::starEach es X.env:=by rfl) (bX:(backTo pos (starEach es X.env)).any (·.1)=false:=by rfl):PE X (.Call (.Name x p) (e::es) [] pos) (CY r t):=by
 intro pins s U H Q I h
 refine wpAny_Call_Name_kw (lV I hg hm hv ?_ hn eY)
 exact PyProof.Rows.callWith_builtin1 (aO (ha pos pins s U H _ I h) λus s1 ⟨vs,H1,I1,r1,q1⟩=>hc pins s1 U H1 vs us Q I1 r1 q1) he bX
def LU (hc:bZ X (.type T) r) (hg:Gl X x) (hm:X.mg x=none) (hv:bootBuiltins x=some (.type T)) (ha:PA X (e::es) t) (hn:x ≠ "__name__" := by decide) (eY:(x==("__debug__" : Str))=false:=by decide)
  (he:starEach (e::es) X.env=(false,eval e X.env)::starEach es X.env:=by rfl) (bX:(backTo pos (starEach es X.env)).any (·.1)=false:=by rfl):PE X (.Call (.Name x p) (e::es) [] pos) (CY r t):=by
 intro pins s U H Q I h
 refine wpAny_Call_Name_kw (lV I hg hm hv ?_ hn eY)
 exact PyProof.Rows.callWith_type1 (aO (ha pos pins s U H _ I h) λus s1 ⟨vs,H1,I1,r1,q1⟩=>hc pins s1 U H1 vs us Q I1 r1 q1) he bX
end
end L2
namespace HT
open PySem PyProof.Rows
section
open PySem.SeqAt
open PySem.AutoSeq1 (wpAny_loadPart')
open PySem.MeetsSeq PySem.MeetsSeq2 PySem.MeetsSeq3
end
section
variable {prog:Program}{w:World}{A:Around}{E:Aa}{s:Shared}
def cat_tup {t b:Addr}{vs ws:Af}{Q:Aa}(ht:IsTup s.heap t vs.toArray) (hb:IsTup s.heap b ws.toArray) (hv:vs≠[])
  (h1:ws=[]->Q (.ref t) s) (h2:ws≠[]->Q (.ref s.heap.objs.size) { s with heap:=s.heap.push { cls:=.type "tuple", data:=.seq (vs++ws).toArray } })
  (hsz:vs.length+ws.length<=sizeLine):wpAny (model prog w) A (binaryOp .Add (.ref t) (.ref b)) Q E s:=by
 obtain ⟨⟨cls,dd,data,sl⟩,ho,hc,n,hd⟩:=id ht
 obtain ⟨⟨u9,lZ,data2,l5⟩,ho2,gH,n2,hd2⟩:=id hb
 simp only at hc hd gH hd2
 subst hc hd gH hd2
 have e:vs.toArray++ws.toArray=(vs++ws).toArray:=by simp
 by_cases hw:ws=[]
 ·exact concat_meets ⟨_,ho,rfl⟩ ⟨_,ho2,rfl⟩ noFill_tuple_add seq_tuple_add PySem.F.slot_tuple_add PySem.F.entry_tuple_add (PySem.F.args_tuple_add_2 _ _)
   (tuple_addW1 t b vs.toArray ws.toArray n n2 dd lZ sl l5 (by simpa using hv) (by simp [hw])) ⟨ho,ho2,h1 hw⟩
 ·refine concat_meets ⟨_,ho,rfl⟩ ⟨_,ho2,rfl⟩ noFill_tuple_add seq_tuple_add PySem.F.slot_tuple_add PySem.F.entry_tuple_add (PySem.F.args_tuple_add_2 _ _)
   (tuple_addW2 t b vs.toArray ws.toArray n n2 dd lZ sl l5 (by simpa using hv) (by simpa using hw) (by rw [yV,yV];exact hsz)) ⟨ho,ho2,?_⟩
  rw [e]
  exact h2 hw
def sIx (n d:Nat):Option Int->Nat
 | none=>d
 | some v=>if v<0 then (v+(n:Int)).toNat else min v.toNat n
def sIx_none (n d:Nat):sIx n d none=d:=rfl
theorem sIx_nat (n d k:Nat):sIx n d (some (k:Int))=min k n:=by
 show (if (k:Int)<0 then ((k:Int)+(n:Int)).toNat else min (k:Int).toNat n)=min k n
 rw [zR (by omega),Int.toNat_natCast]
theorem LV (n d:Nat) (hd:d<=n) (o:Option Int):sIx n d o<=n:=by
 cases o with
 | none=>exact hd
 | some v =>
  show (if v<0 then (v+(n:Int)).toNat else min v.toNat n)<=n
  by_cases hv:v<0
  ·rw [zF hv];omega
  ·rw [zR hv];exact Nat.min_le_right _ _
theorem CZ (v:Int) (n d:Nat):(if v<0 then max (v+(n:Int)) 0 else min v (n:Int))=((sIx n d (some v):Nat):Int):=by
 show (if v<0 then max (v+(n:Int)) 0 else min v (n:Int))=(((if v<0 then (v+(n:Int)).toNat else min v.toNat n):Nat):Int)
 by_cases hv:v<0
 ·simp only [zF hv];omega
 ·simp only [zR hv];omega
theorem LW (lo hi:Option Int) (n:Nat):Builtin.Slice.sliceAdjust lo hi 1 (n:Int)=(((sIx n 0 lo:Nat):Int),((sIx n n hi:Nat):Int)):=by
 have h1:¬((1:Int)<0):=by omega
 unfold Builtin.Slice.sliceAdjust
 simp only [h1,if_false]
 refine Prod.ext ?_ ?_
 ·cases lo with
  | none=>rfl
  | some v=>exact CZ v n 0
 ·cases hi with
  | none=>rfl
  | some v=>exact CZ v n n
theorem LX (i j:Nat):Builtin.Slice.slicePlaces (i:Int) (j:Int) 1=j-i:=by
 unfold Builtin.Slice.slicePlaces
 have h1:(1:Int)>0:=by omega
 simp only [h1,iB,Int.ediv_one]
 split<;>omega
def C0 {v:Value}{o:Option Int}{Q:Option Int->Shared->Prop}(p:IsPart v o) (h:Q o s):wpAny (model prog w) A (Builtin.Slice.slicePartIndex v) Q E s:=by
 cases p with
 | none=>exact slicePart_none h
 | int i t=>exact slicePart_int h
def C3 {sl:Addr}{vl vu:Value}{lo hi:Option Int}{n:Nat}{Q:Int×Int×Nat->Shared->Prop}(hs:s.heap.IsSliceOf sl vl vu .none) (pl:IsPart vl lo) (pu:IsPart vu hi)
  (h:Q (((sIx n 0 lo:Nat):Int),1,sIx n n hi-sIx n 0 lo) s):wpAny (model prog w) A (Builtin.Slice.sliceApplied (.ref sl) (pure (n:Int))) Q E s:=by
 obtain ⟨os,l8,sj,pR⟩:=id hs
 unfold Builtin.Slice.sliceApplied Builtin.Slice.sliceFields
 refine zA (zA (jF l8 pR (x:=vl) rfl (zA (jF l8 pR (x:=vu) rfl (zA (jF l8 pR (x:=.none) rfl (yg ?_)))))))
 refine zA (slicePart_none ?_)
 show wpAny _ _ (if ((1:Int)==0)=true then _ else _) _ _ s
 rw [zR (by decide)]
 refine zA (C0 pl (zA (C0 pu (zA (yg ?_)))))
 show wpAny _ _ (match Builtin.Slice.sliceAdjust lo hi 1 (n:Int) with|(lo,hi)=>pure (lo,(1:Int),Builtin.Slice.slicePlaces lo hi 1)) _ _ s
 rw [LW lo hi n]
 show wpAny _ _ (pure (((sIx n 0 lo:Nat):Int),(1:Int),Builtin.Slice.slicePlaces ((sIx n 0 lo:Nat):Int) ((sIx n n hi:Nat):Int) 1)) _ _ s
 rw [LX]
 exact yg h
theorem LY (xs:Array Value) (i k:Nat):((List.range k).filterMap λ(m:Nat)=>xs[((i:Int)+(m:Int)*1).toNat]?).toArray=((xs.toList.drop i).take k).toArray:=by
 have e:(λ(m:Nat)=>xs[((i:Int)+(m:Int)*1).toNat]?)=λm=>xs[i+m]?:=by
  funext m
  have:((i:Int)+(m:Int)*1).toNat=i+m:=by omega
  rw [this]
 rw [e]
 have:=pick_run xs i k
 rw [List.filterMap_map] at this
 have e2:((λx=>xs[x]?)∘λx=>i+x)=λm=>xs[i+m]?:=rfl
 rw [e2] at this
 rw [this]
theorem getItem_tuple_cut {t sl:Addr}{items:Array Value}{vl vu:Value}{lo hi:Option Int}{Q:Aa}(ht:IsTup s.heap t items) (hs:s.heap.IsSliceOf sl vl vu .none) (pl:IsPart vl lo) (pu:IsPart vu hi)
  (hw:¬(sIx items.size 0 lo=0/\sIx items.size items.size hi=items.size))
  (h:Q (.ref s.heap.objs.size) { s with heap:=s.heap.push { cls:=.type "tuple", data:=.seq ((items.toList.drop (sIx items.size 0 lo)).take (sIx items.size items.size hi-sIx items.size 0 lo)).toArray } })
  (hsz:items.size<=sizeLine):wpAny (model prog w) A (getItem (.ref t) (.ref sl)) Q E s:=by
 have km:sizeOk (.seq ((items.toList.drop (sIx items.size 0 lo)).take (sIx items.size items.size hi-sIx items.size 0 lo)).toArray):=by
  show ((items.toList.drop (sIx items.size 0 lo)).take (sIx items.size items.size hi-sIx items.size 0 lo)).toArray.size<=sizeLine
  rw [yV,List.length_take,List.length_drop,Array.length_toList]
  omega
 have hj:sIx items.size items.size hi<=items.size:=LV _ _ (yk _) hi
 obtain ⟨os,l8,sj,pR⟩:=id hs
 have vJ:s.TypeIs (.ref sl) "slice" := ⟨os,l8,sj⟩
 unfold getItem
 try with_reducible refine wD ?_
 first|refine zA (yg ?_)|skip
 refine zA (wpAny_sequenceKey ht.typeIs (by decide) ?_)
 refine zA (wpAny_callSpecial?_slot (name:=Str.ofString "__getitem__") ht.typeIs PyProof.Rows.slot_tuple_getitem
  (w8 PyProof.Rows.slot_tuple_getitem ht.typeIs entry_tuple_getitem ?_ (args_tuple_getitem _ _)))
 show wpAny _ _ (Builtin.Tuple.tupleItemsOf (.ref t) >>= _) _ _ s
 refine zA (tupleItemsOf_ ht ?_)
 refine zA (wpAny_typeOf vJ ?_)
 rw [zF (by decide)]
 refine zA (C3 hs pl pu ?_)
 have LZ:¬((((sIx items.size 0 lo:Nat):Int)==0&&(1:Int)==1&&(sIx items.size items.size hi-sIx items.size 0 lo)==items.size)=true):=by
  intro q
  rw [w9,w9] at q
  have q1:((sIx items.size 0 lo:Nat):Int)=0:=eq_of_beq q.1.1
  have q2:sIx items.size items.size hi-sIx items.size 0 lo=items.size:=eq_of_beq q.2
  exact hw ⟨by omega,by omega⟩
 show wpAny _ _ (if (((sIx items.size 0 lo:Nat):Int)==0&&(1:Int)==1&&(sIx items.size items.size hi-sIx items.size 0 lo)==items.size)=true then _ else _) _ _ s
 rw [zR LZ,LY]
 first
  | exact zA (m:=Builtin.Tuple.tupleExact _) (kg (yg ⟨_,rfl,yg h⟩) km)
  | exact zA (m:=Builtin.Tuple.tupleExact _) (kg (zA (yg (yg ⟨_,rfl,yg h⟩))) km)
  | exact zA (zA (m:=Builtin.Tuple.tupleExact _) (kg (yg (yg ⟨_,rfl,yg h⟩)) km))
  | exact zA (zA (m:=Builtin.Tuple.tupleExact _) (kg (yg ⟨_,rfl,yg h⟩) km))
end
end HT
namespace L2
open PySem PySem.Spec PyProof.Rows
abbrev TO:=St->Hp->(Option Int->Hp->Prop)->Prop
def PO (X:Cx) (e:Option Expr) (t:TO):Prop :=
 ∀(pins:Ac) (s:Shared) (U:St) (H:Hp) (Q:Option Int->Hp->Prop),Inv X pins U H s->t U H Q ->
  wpAny (model X.prog X.w) X.A (evalPart e X.env) (λu s'=>∃o H',Inv X pins U H' s'/\IsPart u o/\Q o H') X.xe s
def L3:TO:=λ_ H Q=>Q none H
def L4 (t:TE):TO:=λU H Q=>t U H λx H1=>∃i,x=.int i/\Q (some i) H1
section
variable {X:Cx}{e:Expr}{te:TE}{lo hi:Option Expr}{tl th:TO}{pos p2:Pos}
def L5:PO X none L3:=by
 intro pins s U H Q I h
 rw [evalPart_none]
 exact yg ⟨none,H,I,.none,h⟩
def L7 (h:PE X e te):PO X (some e) (L4 te):=by
 intro pins s U H Q I hw
 rw [evalPart_some]
 refine aO (h pins s U H _ I hw) λu s1 ⟨x,H1,I1,r1,q1⟩=>?_
 obtain ⟨i,rfl,q⟩:=q1
 obtain ⟨t,rfl⟩:=r1
 exact ⟨some i,H1,I1,.int i t,q⟩
def kn (X:Cx) (r:V->Option Int->Option Int->Hp->VK->Prop):Prop :=
 ∀(pins:Ac) (s:Shared) (U:St) (H:Hp) (x:V) (v vl vu:Value) (lo hi:Option Int) (sl:Addr) (Q:VK),Inv X pins U H s->RelV x v->s.heap.IsSliceOf sl vl vu .none->IsPart vl lo->IsPart vu hi->r x lo hi H Q ->
  ∃T id,typeLookup (.type T) "__getitem__" = pure (some (.builtin id))/\s.TypeIs v T/\wpAny (model X.prog X.w) X.A (getItem v (.ref sl)) (EP X pins U Q) X.xe s
def kn.or {r r':V->Option Int->Option Int->Hp->VK->Prop}(h:kn X r) (h':kn X r'):kn X (λx lo hi H Q=>r x lo hi H Q\/r' x lo hi H Q):=by
 intro pins s U H x v vl vu lo hi sl Q I rx hs pl pu q
 rcases q with q|q
 ·exact h pins s U H x v vl vu lo hi sl Q I rx hs pl pu q
 ·exact h' pins s U H x v vl vu lo hi sl Q I rx hs pl pu q
def L8 (r:V->Option Int->Option Int->Hp->VK->Prop) (te:TE) (tl th:TO):TE:=λU H Q=>te U H λx H1=>tl U H1 λl H2=>th U H2 λu H3=>r x l u H3 Q
def L9 {r:V->Option Int->Option Int->Hp->VK->Prop}(hr:kn X r) (he:PE X e te) (hl:PO X lo tl) (hu:PO X hi th):PE X (.Subscript e (.Slice lo hi none p2) pos) (L8 r te tl th):=by
 intro pins s U H Q I h
 refine Subscript_ (aO (he pins s U H _ I h) λv s1 ⟨x,H1,I1,r1,q1⟩=>?_)
 refine wpAny_Slice (aO (hl pins s1 U H1 _ I1 q1) λvl s2 ⟨l,H2,I2,pl,q2⟩=>aO (hu pins s2 U H2 _ I2 q2) λvu s3 ⟨u,H3,I3,pu,q3⟩=>?_)
 rw [evalPart_none]
 refine yg ?_
 have I4:Inv X pins U H3 { s3 with heap:=s3.heap.push { cls:=.type "slice", data:=.fields #[vl,vu,.none] } }:=I3.kept (t':=s3.toks) λb ob q=>yC _ q
 obtain ⟨T,id,hT,ht,hg⟩:=hr pins { s3 with heap:=s3.heap.push { cls:=.type "slice", data:=.fields #[vl,vu,.none] } } U H3 x v vl vu l u s3.heap.objs.size Q I4 r1 (Heap.IsSliceOf.new ..) pl pu q3
 show wpAny (model X.prog X.w) X.A (subscriptTail e (.Slice lo hi none p2) v (.ref s3.heap.objs.size)) (EP X pins U Q) X.xe { s3 with heap:=s3.heap.push { cls:=.type "slice", data:=.fields #[vl,vu,.none] } }
 exact tail_any (ops:=[.ref s3.heap.objs.size,v]) ht hT hg (by with_unfolding_all rfl)
def fY (xs:List V) (lo hi:Option Int):List V:=(xs.drop (HT.sIx xs.length 0 lo)).take (HT.sIx xs.length xs.length hi-HT.sIx xs.length 0 lo)
theorem C4 (xs:List V) (lo hi:Option Int):(fY xs lo hi).length<=xs.length:=by
 unfold fY
 rw [List.length_take,List.length_drop]
 omega
def L_ (K:PySem.W.Frag):V->Option Int->Option Int->Hp->VK->Prop:=λx lo hi H Q=>∃a xs,x=.ref a/\a5 K H a xs /\
 ¬(HT.sIx xs.length 0 lo=0/\HT.sIx xs.length xs.length hi=xs.length)/\∀p,H p=none->Q (.ref p) (upd H p (.tup (fY xs lo hi)))
def Ma:kn X (L_ X.K):=by
 intro pins s U H x v vl vu lo hi sl Q I rx hs pl pu h
 obtain ⟨a,xs,rfl,hx,hw,q⟩:=h
 cases rx
 obtain ⟨its,r,ht,hz⟩:=I.tuple hx
 have hlen:its.toArray.size=xs.length:=by rw [yV];exact r.length.symm
 refine ⟨"tuple", _,PyProof.Rows.slot_tuple_getitem.lookup,ht.typeIs,?_⟩
 refine HT.getItem_tuple_cut ht hs pl pu (by rw [hlen];exact hw) ?_ (by rw [hlen];exact hz)
 rw [hlen]
 refine ⟨.ref s.heap.objs.size,_,I.laid (t':=s.toks) (o:=.tup (fY xs lo hi)) (λb ob q=>yC _ q) (yk _) ?_,rfl,q _ (I.hok.fresh (yk _))⟩
 exact ⟨jr (C4 xs lo hi) hz,_,(r.drop (HT.sIx xs.length 0 lo)).take (HT.sIx xs.length xs.length hi-HT.sIx xs.length 0 lo),IsTup.new _ _⟩
def Mb (K:PySem.W.Frag):R2:=λx y H Q=>∃a b xs ys,x=.ref a/\y=.ref b/\a5 K H a xs/\a5 K H b ys/\xs≠[]/\xs.length+ys.length<=sizeLine /\
 (ys=[]->Q (.ref a) H)/\(ys≠[]->∀p,H p=none->Q (.ref p) (upd H p (.tup (xs++ys))))
def Vals.nil_iff {xs:List V}{us:Af}(r:Vals xs us):us=[]↔xs=[]:=by
 cases r with
 | nil=>simp
 | cons _ _=>simp
def Mc:bf X (binaryOp .Add) (Mb X.K):=by
 intro pins s U H x y v u Q I rx ry h
 obtain ⟨a,b,xs,ys,rfl,rfl,ha,hb,hx,hz,q1,q2⟩:=h
 cases rx
 cases ry
 obtain ⟨its,r1,p1,_⟩:=I.tuple ha
 obtain ⟨aM,r2,p2,_⟩:=I.tuple hb
 refine HT.cat_tup p1 p2 (λz=>hx (r1.nil_iff.mp z)) (λz=>⟨.ref a,H,I,rfl,q1 (r2.nil_iff.mp z)⟩) (λz=>?_) (by rw [<-r1.length,<-r2.length];exact hz)
 refine ⟨.ref s.heap.objs.size,_,I.laid (t':=s.toks) (o:=.tup (xs++ys)) (λb ob q=>yC _ q) (yk _) ?_,rfl,q2 (λw=>z (r2.nil_iff.mpr w)) _ (I.hok.fresh (yk _))⟩
 exact ⟨by rw [iA];exact hz,_,r1.append r2,IsTup.new _ _⟩
end
def ko (n:Nat) (i:Int):Option Nat:=if 0<=i then (if i<n then some i.toNat else none) else if -(n:Int)<=i then some (i+n).toNat else none
def cY {α:Type}(xs:List α) (i:Int):Option α:=(ko xs.length i).bind λj=>xs[j]?
theorem C5 {n:Nat}{i:Int}{j:Nat}(h:ko n i=some j):seqIndex? i n=some j/\j<n /\ -(n:Int)<=i/\i<n:=by
 unfold ko at h
 by_cases h0:0<=i
 ·rw [zF h0] at h
  by_cases h1:i<n
  ·rw [zF h1] at h
   have e:i.toNat=j:=Option.some.inj h
   exact ⟨by rw [seqIndex_of h0 h1,e],by omega,by omega,h1⟩
  ·rw [zR h1] at h;cases h
 ·rw [zR h0] at h
  by_cases h1 : -(n:Int)<=i
  ·rw [zF h1] at h
   have e:(i+n).toNat=j:=Option.some.inj h
   exact ⟨by rw [seqIndex_neg (by omega) h1,e],by omega,h1,by omega⟩
  ·rw [zR h1] at h;cases h
def aU {α:Type}{xs:List α}{i:Int}{v:α}(h:cY xs i=some v):∃j,seqIndex? i xs.length=some j/\xs[j]?=some v/\j<xs.length /\ -(xs.length:Int)<=i/\i<xs.length:=by
 unfold cY at h
 cases e:ko xs.length i with
 | none=>rw [e] at h;cases h
 | some j =>
  rw [e] at h
  obtain ⟨h1,h2,h3,h4⟩:=C5 e
  exact ⟨j,h1,h,h2,h3,h4⟩
def gI (b:Expr):Prop:=∀o i,subscripted b false o i=operate [o,i] (getItem o i)
def fQ (X:Cx) (r:R2):Prop :=
 ∀(value slice:Expr) (pins:Ac) (s:Shared) (U:St) (H:Hp) (x y:V) (v u:Value) (Q:VK),Inv X pins U H s->RelV x v->RelV y u->r x y H Q ->
  subscripted slice false v u=operate [v,u] (getItem v u)->wpAny (model X.prog X.w) X.A (subscriptTail value slice v u) (EP X pins U Q) X.xe s
def Md (X:Cx) (id:String) (r:V->List V->Hp->VK->Prop):Prop :=
 ∀(pins:Ac) (s:Shared) (U:St) (H:Hp) (x:V) (xs:List V) (v:Value) (us:Af) (Q:VK),Inv X pins U H s->RelV x v->Vals xs us->r x xs H Q ->
  wpAny (model X.prog X.w) X.A (call (.builtin id) (v::us)) (EP X pins U Q) X.xe s
section
variable {X:Cx}{a b:Expr}{ta tb:TE}{pos:Pos}
def fQ.or {r r':R2}(h:fQ X r) (h':fQ X r'):fQ X (λx y H Q=>r x y H Q\/r' x y H Q):=by
 intro value slice pins s U H x y v u Q I rx ry q hs
 rcases q with q|q
 ·exact h value slice pins s U H x y v u Q I rx ry q hs
 ·exact h' value slice pins s U H x y v u Q I rx ry q hs
def Me {r:R2}(hr:fQ X r) (ha:PE X a ta) (hb:PE X b tb) (hs:gI b):PE X (.Subscript a b pos) (pM r ta tb):=by
 intro pins s U H Q I h
 exact Subscript_ (pN ha hb I h λv u s2 x y H2 I2 rx ry q=>hr a b pins s2 U H2 x y v u Q I2 rx ry q (hs _ _))
def C6 (K:PySem.W.Frag):R2:=λx y H Q=>∃p xs i v,x=.ref p/\y=.int i/\aZ K H p xs/\cY xs i=some v/\Q v H
def C7 (K:PySem.W.Frag):R2:=λx y H Q=>∃p xs i v,x=.ref p/\y=.int i/\a5 K H p xs/\cY xs i=some v/\Q v H
def C8:R2:=λx y H Q=>∃z i c,x=.str z/\y=.int i/\z.length<=sizeLine/\cY z.cps.toList i=some c/\Q (.str ⟨#[c]⟩) H
theorem Mf:fQ X (C6 X.K):=by
 intro value slice pins s U H x y v u Q I rx ry h hs
 obtain ⟨p,xs,i,z,rfl,rfl,hq,he,q⟩:=h
 cases rx
 obtain ⟨t,rfl⟩:=ry
 obtain ⟨its,r,pl,hz⟩:=I.list hq
 obtain ⟨j,h1,h2,h3,h4,h5⟩:=aU he
 obtain ⟨w,ew,dG⟩:=r.get h2
 have hl:=r.length
 have hn:=pO
 have fin:EP X pins U Q w s:=⟨z,H,I,dG,q⟩
 by_cases h0:0<=i
 ·have hj:i.toNat=j:=by
   rw [seqIndex_of h0 h5] at h1
   exact Option.some.inj h1
  exact item_listR pl.isList h0 (by omega) (by rw [hj];simpa using ew) fin hs
 ·have hj:(i+(its.toArray.size:Int)).toNat=j:=by
   rw [seqIndex_neg (by omega) h4] at h1
   rw [yV,<-hl]
   exact Option.some.inj h1
  exact subscriptTail_builtinR (x:=w) pl.isList.typeIs slot_list_getitem.lookup
   (wpAny_getItem_list_neg (Q:=λr s'=>r=w/\EP X pins U Q r s') pl.isList (by omega) (by rw [yV]<;>omega) (by omega) (by rw [hj];simpa using ew) ⟨rfl,fin⟩) hs
theorem Mg:fQ X (C7 X.K):=by
 intro value slice pins s U H x y v u Q I rx ry h hs
 obtain ⟨p,xs,i,z,rfl,rfl,hq,he,q⟩:=h
 cases rx
 obtain ⟨t,rfl⟩:=ry
 obtain ⟨its,r,pl,hz⟩:=I.tuple hq
 obtain ⟨j,h1,h2,h3,h4,h5⟩:=aU he
 obtain ⟨w,ew,dG⟩:=r.get h2
 have hl:=r.length
 have hn:=pO
 have fin:EP X pins U Q w s:=⟨z,H,I,dG,q⟩
 exact subscriptTail_builtinR (x:=w) pl.typeIs slot_tuple_getitem.lookup
  (getItem_tuple (j:=j) (Q:=λr s'=>r=w/\EP X pins U Q r s') pl (by omega) (by omega) (by rw [yV,<-hl];exact h1) (by simpa using ew) ⟨rfl,fin⟩) hs
theorem fD:fQ X C8:=by
 intro value slice pins s U H x y v u Q I rx ry h hs
 obtain ⟨z,i,c,rfl,rfl,hz,he,q⟩:=h
 obtain ⟨t,rfl⟩:=rx
 obtain ⟨t',rfl⟩:=ry
 obtain ⟨j,h1,h2,h3,h4,h5⟩:=aU he
 have hl:z.cps.toList.length=z.length:=by simp [Str.length]
 rw [hl] at h1 h4 h5
 have hn:=pO
 exact tail_any (typeIs_str s z t) slot_str_getitem.lookup (getItem_str (c:=c) (by
  have e1:decide (i < -(2 ^ 63:Int))=false:=jC (by omega)
  have e2:decide (i>=2 ^ 63)=false:=jC (by omega)
  rw [e1,e2,Bool.or_false]) (by rw [h1];simpa using h2) ⟨.str ⟨#[c]⟩,H,I.tok _,⟨_,rfl⟩,q⟩) hs
def Mh (K:PySem.W.Frag):R2:=λx y H Q=>C6 K x y H Q\/C7 K x y H Q\/C8 x y H Q
def Mj:fQ X (Mh X.K):=Mf.or (Mg.or fD)
def Ml (its:Af) (n j:Nat) (u:Value):Obj.mapSeq (·.setIfInBounds j u) { cls:=.type "list", data:=.seq its.toArray n }={ cls:=.type "list", data:=.seq (its.set j u).toArray n }:=by
 simp [Obj.mapSeq]
def Inv.lst {pins:Ac}{U:St}{H:Hp}{s:Shared}{p:Addr}{xs:List V}(I:Inv X pins U H s) (h:H p=some (.lst xs)) :
  ∃(its:Af) (n:Nat),Vals xs its/\s.heap.get? p=some { cls:=.type "list", data:=.seq its.toArray n }/\xs.length<=sizeLine:=by
 obtain ⟨z,its,n,r,e⟩:=I.hok p _ h
 exact ⟨its,n,r,e,z⟩
def Inv.lstUpd {pins:Ac}{U:St}{H:Hp}{s:Shared}{p:Addr}{xs ys:List V}{its its':Af}{n n':Nat}{f:Obj->Obj}(I:Inv X pins U H s) (h:H p=some (.lst xs))
  (ho:s.heap.get? p=some { cls:=.type "list", data:=.seq its.toArray n }) (hf:f { cls:=.type "list", data:=.seq its.toArray n }={ cls:=.type "list", data:=.seq its'.toArray n' }) (r:Vals ys its') (hz:ys.length<=sizeLine) (t:Nat) :
  Inv X pins U (upd H p (.lst ys)) { s with heap:=s.heap.update p f,toks:=t }:=by
 have e:(s.heap.update p f).get? p=some { cls:=.type "list", data:=.seq its'.toArray n' }:=by
  rw [Heap.get?_update_self f ho (by rw [hf]<;>rfl),hf]
 refine I.write (x:=p) (e:=p) (by rw [h];trivial) (.inl rfl) (λb u hb q=>(iw _ _ (ja hb)).trans q) ⟨_,e⟩ ?_
 exact ⟨hz,its',n',r,e⟩
def Mm:V->V->V->Hp->(Hp->Prop)->Prop:=λo i v H Q=>∃p xs k j,o=.ref p/\i=.int k/\H p=some (.lst xs)/\ko xs.length k=some j/\Q (upd H p (.lst (xs.set j v)))
theorem Mn:uZ X Mm:=by
 intro pins s U H o i v ov iv u Q I ro ri rv h
 obtain ⟨p,xs,k,j,rfl,rfl,hp,hj,q⟩:=h
 cases ro
 obtain ⟨t,rfl⟩:=ri
 obtain ⟨its,n,r,ho,hz⟩:=I.lst hp
 obtain ⟨h1,h2,h3,h4⟩:=C5 hj
 have hl:=r.length
 have hn:=pO
 have I':Inv X pins U (upd H p (.lst (xs.set j v))) { s with heap:=s.heap.update p (Obj.mapSeq (·.setIfInBounds j u)) } :=
  I.lstUpd hp ho (Ml its n j u) (r.set rv j) (by rw [List.length_set];exact hz) s.toks
 by_cases h0:0<=k
 ·have hk:k.toNat=j:=by
   rw [seqIndex_of h0 h4] at h1
   exact Option.some.inj h1
  exact PySem.W.ki_setAt ho h0 (by omega) (by rw [yV,<-hl];exact h4) (by rw [hk];exact ⟨_,I',q⟩)
 ·have hk:(k+(its.toArray.size:Int)).toNat=j:=by
   rw [seqIndex_neg (by omega) h3] at h1
   rw [yV,<-hl]
   exact Option.some.inj h1
  exact PySem.W.ki_setBack ho (by omega) (by rw [yV,<-hl];exact h3) (by omega) (by rw [hk];exact ⟨_,I',q⟩)
theorem Mp (lo hi:Option Int) (n:Nat):(sliceBounds lo hi none n).1=((HT.sIx n 0 lo:Nat):Int)/\(sliceBounds lo hi none n).2.1=((HT.sIx n n hi:Nat):Int)/\(sliceBounds lo hi none n).2.2=1:=by
 refine ⟨?_,?_,rfl⟩
 ·cases lo with
  | none=>simp [sliceBounds,HT.sIx]
  | some i =>
   simp only [sliceBounds,HT.sIx,Option.getD_none,show (1:Int)>0 by decide,iB]
   by_cases h:i<0
   ·simp only [h,iB]<;>omega
   ·simp only [h,if_false]<;>omega
 ·cases hi with
  | none=>simp [sliceBounds,HT.sIx]
  | some i =>
   simp only [sliceBounds,HT.sIx,Option.getD_none,show (1:Int)>0 by decide,iB]
   by_cases h:i<0
   ·simp only [h,iB]<;>omega
   ·simp only [h,if_false]<;>omega
def Mq (its:Af) (lo hi:Option Int):slicePick its.toArray lo hi none=((its.drop (HT.sIx its.length 0 lo)).take (HT.sIx its.length its.length hi-HT.sIx its.length 0 lo)).toArray:=by
 obtain ⟨h1,h2,h3⟩:=Mp lo hi its.toArray.size
 unfold slicePick
 rw [h1,h2,h3]
 simp only [sliceRange_one,pick_run,yV]<;>rfl
def Mr (K:PySem.W.Frag):V->Option Int->Option Int->Hp->VK->Prop:=λx lo hi H Q=>∃a xs,x=.ref a/\aZ K H a xs/\∀p,H p=none->Q (.ref p) (upd H p (.lst (fY xs lo hi)))
theorem Ms:kn X (Mr X.K):=by
 intro pins s U H x v vl vu lo hi sl Q I rx hs pl pu h
 obtain ⟨a,xs,rfl,hx,q⟩:=h
 cases rx
 obtain ⟨its,r,ht,hz⟩:=I.list hx
 have hlen:=r.length
 refine ⟨"list", _,slot_list_getitem.lookup,ht.isList.typeIs,?_⟩
 refine wpAny_getItem_list_slice ht.isList hs pl pu .none (by simp) ?_ (by rw [yV]<;>omega)
 rw [Mq,<-hlen]
 refine ⟨.ref s.heap.objs.size,_,I.laid (t':=s.toks) (o:=.lst (fY xs lo hi)) (λb ob q=>yC _ q) (yk _) ?_,rfl,q _ (I.hok.fresh (yk _))⟩
 exact ⟨jr (C4 xs lo hi) hz,_,0,(r.drop (HT.sIx xs.length 0 lo)).take (HT.sIx xs.length xs.length hi-HT.sIx xs.length 0 lo),jq _ rfl⟩
def zon:bf X (compareOp .NotIn) (λx y H Q=>∃i j,x=.str i/\y=.str j/\Q (.bl (!(!(Builtin.Str.occurrences j i 0 j.length 1).isEmpty))) H):=by
 intro pins s U H x y v u Q I rx ry h
 obtain ⟨i,j,rfl,rfl,q⟩:=h
 obtain ⟨t,rfl⟩:=rx
 obtain ⟨t',rfl⟩:=ry
 exact notIn_str ⟨.bl _,H,I,rfl,q⟩
def bZ.or {f:Value}{r r':List V->Hp->VK->Prop}(h:bZ X f r) (h':bZ X f r'):bZ X f (λxs H Q=>r xs H Q\/r' xs H Q):=by
 intro pins s U H xs us Q I rs q
 rcases q with q|q
 ·exact h pins s U H xs us Q I rs q
 ·exact h' pins s U H xs us Q I rs q
def Mt:bZ X (.type "list") (λxs H Q=>∃p ys,xs=[.ref p]/\(aZ X.K H p ys\/a5 X.K H p ys)/\∀l,H l=none->Q (.ref l) (upd H l (.lst ys))):=by
 intro pins s U H xs us Q I r h
 obtain ⟨p,ys,rfl,hq,q⟩:=h
 obtain ⟨u,rfl,rx⟩:=lX r
 cases rx
 have fin:∀(its:Af),Vals ys its->ys.length<=sizeLine->∀(h':Heap) (c':Nat),(∀b o',s.heap.get? b=some o'->h'.get? b=some o') ->
   h'.get? s.heap.objs.size=some { cls:=.type "list", dict:=none,data:=.seq its.toArray c',slots:=#[] }->EP X pins U Q (.ref s.heap.objs.size) { s with heap:=h' }:=λits r' hz h' c' kp e =>
  ⟨.ref s.heap.objs.size,_,I.laid (t':=s.toks) kp (yk _) (show aQ X.prog X.w _ h' _ (.lst ys) from ⟨hz,its,c',r',e⟩),rfl,q _ (I.hok.fresh (yk _))⟩
 rcases hq with hq|hq
 ·obtain ⟨its,r',pl,hz⟩:=I.list hq
  have hlen:=r'.length
  obtain ⟨o,ho,hc,n,hd⟩:=pl.isList
  exact call_list_seq p (.inl rfl) ho hc hd (λh' c' kp e=>fin its r' hz h' c' kp e) (by simp only [yV]<;>omega)
 ·obtain ⟨its,r',pl,hz⟩:=I.tuple hq
  have hlen:=r'.length
  obtain ⟨o,ho,hc,n,hd⟩:=pl
  exact call_list_seq p (.inr rfl) ho hc hd (λh' c' kp e=>fin its r' hz h' c' kp e) (by simp only [yV]<;>omega)
def Mu:bZ X (.type "tuple") (λxs H Q=>∃p ys,xs=[.ref p]/\((aZ X.K H p ys/\∀l,H l=none->Q (.ref l) (upd H l (.tup ys)))\/(a5 X.K H p ys/\Q (.ref p) H))):=by
 intro pins s U H xs us Q I r h
 obtain ⟨p,ys,rfl,h⟩:=h
 obtain ⟨u,rfl,rx⟩:=lX r
 cases rx
 rcases h with ⟨hq,q⟩|⟨hq,q⟩
 ·obtain ⟨its,r',pl,hz⟩:=I.list hq
  have hlen:=r'.length
  refine call_tuple_list pl.isList (λh' kp=>?_) (by simp only [yV]<;>omega)
  have I1:Inv X pins U H { s with heap:=h' }:=I.kept (t':=s.toks) kp
  have I2:Inv X pins U (upd H h'.objs.size (.tup ys)) { s with heap:=h'.push { cls:=.type "tuple", data:=.seq its.toArray } } :=
   I1.laid (t':=s.toks) (λb o e=>yC _ e) (yk _) (show aQ X.prog X.w _ _ _ (.tup ys) from ⟨hz,its,r',IsTup.new _ _⟩)
  exact ⟨.ref h'.objs.size,_,I2,rfl,q _ (I1.hok.fresh (yk _))⟩
 ·obtain ⟨its,r',pl,hz⟩:=I.tuple hq
  exact call_tuple_same pl ⟨.ref p,H,I,rfl,q⟩
def C9 (K:PySem.W.Frag) (T:String) (x:V) (H:Hp):Prop:=match x with
 | .str _=>T = "str"
 | .int _=>T = "int"
 | .ref p=>(T = "list" /\ ∃xs,aZ K H p xs)\/(T = "tuple" /\ ∃o,K.lookup p=some o/\o.cls=.type "tuple" /\ o.dict=none) \/
   (T = "dict" /\ ((∃kvs,H p=some (.dK kvs))\/∃kvs,H p=some (.dT kvs)))\/(T = "set" /\ ∃S n,H p=some (.set S n))
 | _=>False
def Mv {pins:Ac}{U:St}{H:Hp}{s:Shared}{T:String}{x:V}{v:Value}(I:Inv X pins U H s) (r:RelV x v) (ty:C9 X.K T x H) :
  s.TypeIs v T/\∀a,v=.ref a->∃ob,s.heap.get? a=some ob/\ob.dict=none:=by
 cases x with
 | str z =>
  obtain ⟨t,rfl⟩:=r
  cases (show T = "str" from ty)
  exact ⟨typeIs_str s z t,λ_ e=>nomatch e⟩
 | int i =>
  obtain ⟨t,rfl⟩:=r
  cases (show T = "int" from ty)
  exact ⟨typeIs_int s i t,λ_ e=>nomatch e⟩
 | ref p =>
  cases r
  rcases ty with ⟨rfl,xs,hq⟩|⟨rfl,o,hk,hc,hd⟩|⟨rfl,hk⟩|⟨rfl,S,n,hk⟩
  ·obtain ⟨its,_,pl,_⟩:=I.list hq
   refine ⟨pl.isList.typeIs,λa e=>?_⟩
   cases e
   obtain ⟨o,n,e,c,hd,_⟩:=pl
   exact ⟨o,e,hd⟩
  ·refine ⟨⟨o,I.kIn p o hk,hc⟩,λa e=>?_⟩
   cases e
   exact ⟨o,I.kIn _ o hk,hd⟩
  ·have z:∃o,s.heap.get? p=some o/\o.ExactDict:=by
    rcases hk with ⟨kvs,hk⟩|⟨kvs,hk⟩
    ·obtain ⟨_,_,_,_,o,_,_,e,ex,_⟩:=I.hok p _ hk
     exact ⟨o,e,ex⟩
    ·obtain ⟨_,_,_,_,o,_,_,e,ex,_⟩:=I.hok p _ hk
     exact ⟨o,e,ex⟩
   obtain ⟨o,e,ex⟩:=z
   refine ⟨⟨o,e,ex.1⟩,λa e2=>?_⟩
   cases e2
   exact ⟨o,e,ex.2.1⟩
  ·obtain ⟨o,_,_,_,e,ex,_⟩:=I.hok p _ hk
   refine ⟨⟨o,e,ex.1⟩,λa e2=>?_⟩
   cases e2
   exact ⟨o,e,ex.2.1⟩
 | _=>exact ty.elim
def Mw (K:PySem.W.Frag) (T:String) (r:V->List V->Hp->VK->Prop) (to:TE) (t:TA):TE:=λU H Q=>to U H λx H1=>C9 K T x H1/\t U H1 λxs H2=>r x xs H2 Q
variable {o e:Expr}{es:List Expr}{to:TE}{t:TA}{name:Str}{apos a6:Pos}{T id:String}{r:V->List V->Hp->VK->Prop}
def vK (pa:PlainAttrs T) (slot:Slot T name id) (nZ:typeOf (.builtin id)=pure (.type "method_descriptor")) (hm:Md X id r) (ho:PE X o to) (ha:PA X (e::es) t)
  (eZ:attributeBase o name X.env (eval o X.env)=eval o X.env:=by rfl)
  (gJ:((backTo a6 (starEach (e::es) X.env)).all (λx=>!x.1)&&(backToKw a6 (keywordEach [] X.env)).all (λx=>x.1.isSome)
   && decide ((e::es).length+([]:List Keyword).length+(if ([]:List Keyword).isEmpty then 0 else 1)<30))=true:=by rfl)
  (e9:(apos.endLine==a6.line)=true:=by rfl) (hs:starEach (e::es) X.env=(false,eval e X.env)::starEach es X.env:=by rfl) (sr:(backTo a6 (starEach es X.env)).any (·.1)=false:=by rfl) :
  PE X (.Call (.Attribute o name apos) (e::es) [] a6) (Mw X.K T r to t):=by
 intro pins s U H Q I h
 refine wpAny_Call_method_late eZ gJ e9 rfl (aO (ho pins s U H _ I h) λv s1 ⟨x,H1,I1,r1,ty,q1⟩=>?_)
 obtain ⟨h1,h2⟩:=Mv I1 r1 ty
 refine ⟨T,id,pa,slot,nZ,h1,h2,?_⟩
 have hA:=ha a6 pins s1 U H1 _ I1 q1
 rw [hs] at hA ⊢
 refine Calls.callWith_builtin (by show (false||(backTo a6 (starEach es X.env)).any (·.1))=false;rw [sr]<;>rfl) (Calls.evalArgs_plain ?_)
 exact aO hA λus s2 ⟨vs,H2,I2,r2,q2⟩=>hm pins s2 U H2 x vs v us Q I2 r1 r2 q2
end
def su (X:Cx) (id:String) (r:V->List V->Hp->VK->Prop):Prop :=
 ∀(pins:Ac) (s:Shared) (U:St) (H:Hp) (x:V) (xs:List V) (v:Value) (us:Af) (Q:VK),Inv X pins U H s->RelV x v->Vals xs us->r x xs H Q ->
  wpAny (model X.prog X.w) X.A (call (.builtin id) (v::us)) (EP X pins U Q) X.xe s
def Vals.one:∀{x:V}{us:Af},Vals [x] us->∃u,us=[u]/\RelV x u
 | _,_,.cons r .nil=>⟨_,rfl,r⟩
theorem Vals.eraseIdx:∀{xs:List V}{us:Af}(i:Nat),Vals xs us->Vals (xs.eraseIdx i) (us.eraseIdx i)
 | _,_,_,.nil=>.nil
 | _,_,0,.cons _ t=>t
 | _,_,i+1,.cons r t=>.cons r (Vals.eraseIdx i t)
def Vals.reverse {xs:List V}{us:Af}(h:Vals xs us):Vals xs.reverse us.reverse:=by
 induction h with
 | nil=>exact .nil
 | cons r t ih=>rw [List.reverse_cons,List.reverse_cons];exact Vals.append ih (.cons r .nil)
theorem C_ {α:Type}:∀(l:List α) (i:Nat),(l.eraseIdx i).length<=l.length
 | [],_=>yk _
 | _::_,0=>Nat.le_succ _
 | _::r,i+1=>Nat.succ_le_succ (C_ r i)
section
variable {X:Cx}{pins:Ac}{U:St}{H:Hp}{s:Shared}{l b:Addr}{xs ys zs:List V}
def Inv.lset {its its':Af}{n:Nat}{f:Array Value->Array Value}{t':Nat}(I:Inv X pins U H s) (hH:H l=some (.lst xs))
  (e:s.heap.get? l=some { cls:=.type "list", data:=.seq its.toArray n }) (hf:f its.toArray=its'.toArray) (hv:Vals ys its') (hz:ys.length<=sizeLine) :
  Inv X pins U (upd H l (.lst ys)) { s with heap:=s.heap.update l (Obj.mapSeq f),toks:=t' }:=by
 have q:=PySem.IsL.update e f
 rw [hf] at q
 refine I.write (x:=l) (e:=l) (by rw [hH];exact trivial) (.inl rfl) (λb' u hb hu=>(iw s.heap (Obj.mapSeq f) (ja hb)).trans hu) ⟨_,q⟩ ?_
 exact ⟨hz,its',_,hv,q⟩
def Inv.lnew {its:Af}{t':Nat}(I:Inv X pins U H s) (hv:Vals ys its) (hz:ys.length<=sizeLine) :
  Inv X pins U (upd H s.heap.objs.size (.lst ys)) { s with heap:=s.heap.push { cls:=.type "list", data:=.seq its.toArray },toks:=t' } :=
 I.laid (λ_ _ q=>yC _ q) (yk _) ⟨hz,its,0,hv,jq _ rfl⟩
def Inv.fresh (I:Inv X pins U H s):H s.heap.objs.size=none:=I.hok.fresh (yk _)
def Inv.lstM (I:Inv X pins U H s) (hH:H l=some (.lst xs)):xs.length<=sizeLine/\∃(its:Af) (n:Nat),Vals xs its/\xs.length=its.length/\s.heap.get? l=some { cls:=.type "list", data:=.seq its.toArray n }:=by
 obtain ⟨z,its,n,r,e⟩:=I.hok l _ hH
 exact ⟨z,its,n,r,r.length,e⟩
theorem j_ {n:Nat}(h:n<=sizeLine):Builtin.List.listTooLong n=false:=by
 unfold Builtin.List.listTooLong
 exact jC (by omega)
end
section
variable {X:Cx}
def Mx:V->List V->Hp->VK->Prop:=λx vs H Q=>∃l xs y,x=.ref l/\vs=[y]/\H l=some (.lst xs)/\xs.length<sizeLine/\Q .non (upd H l (.lst (xs++[y])))
theorem zou:su X "list.append" Mx:=by
 intro pins s U H x vs v us Q I rx rv h
 obtain ⟨l,xs,y,rfl,rfl,hH,hz,q⟩:=h
 cases rx
 obtain ⟨u,rfl,ru⟩:=rv.one
 obtain ⟨z,its,n,r,hl,e⟩:=I.lstM hH
 refine call_meets F.slot_list_append ⟨_,e,rfl⟩ F.entry_list_append (F.args_list_append_2 _ _) (PySem.list_append l its.toArray n u (by rw [yV];omega)) ⟨e,?_⟩
 refine ⟨.non,_,I.lset (its':=its++[u]) hH e (by simp) (r.append (.cons ru .nil)) ?_,rfl,q⟩
 rw [iA,List.length_singleton]
 omega
def Dc:V->List V->Hp->VK->Prop:=λx vs H Q=>∃l b xs zs,x=.ref l/\vs=[.ref b]/\H l=some (.lst xs)/\H b=some (.lst zs)/\xs.length+zs.length<=sizeLine/\Q .non (upd H l (.lst (xs++zs)))
theorem My:su X "list.extend" Dc:=by
 intro pins s U H x vs v us Q I rx rv h
 obtain ⟨l,b,xs,zs,rfl,rfl,hH,hB,hz,q⟩:=h
 cases rx
 obtain ⟨u,rfl,ru⟩:=rv.one
 cases ru
 obtain ⟨z,its,n,r,hl,e⟩:=I.lstM hH
 obtain ⟨z2,aM,n2,r2,hl2,e2⟩:=I.lstM hB
 have hsz:its.toArray.size+aM.toArray.size<=sizeLine:=by rw [yV,yV];omega
 have gK:¬(!its.toArray.isEmpty&&Builtin.List.listTooLong (its.toArray.size+aM.toArray.size))=true:=by
  rw [j_ hsz,Bool.and_false]
  exact Bool.false_ne_true
 refine call_meets F.slot_list_extend ⟨_,e,rfl⟩ F.entry_list_extend (F.args_list_extend_2 _ _)
  (AutoSeq1.list_extend_list_list_0 l its.toArray n b aM.toArray n2 gK (by rw [yV];omega) (by omega)) ⟨e,e2,?_⟩
 refine ⟨.non,_,I.lset (its':=its++aM) hH e (by simp) (r.append r2) ?_,rfl,q⟩
 rw [iA]
 omega
def Mz:V->List V->Hp->VK->Prop:=λx vs H Q=>∃l xs i k y,x=.ref l/\vs=[.int i]/\H l=some (.lst xs) /\ -(2 ^ 63)<=i/\i<2 ^ 63/\seqIndex? i xs.length=some k/\xs[k]?=some y/\Q y (upd H l (.lst (xs.eraseIdx k)))
theorem MB:su X "list.pop" Mz:=by
 intro pins s U H x vs v us Q I rx rv h
 obtain ⟨l,xs,i,k,y,rfl,rfl,hH,h1,h2,hk,hy,q⟩:=h
 cases rx
 obtain ⟨u,rfl,ru⟩:=rv.one
 obtain ⟨t,rfl⟩:=ru
 obtain ⟨z,its,n,r,hl,e⟩:=I.lstM hH
 obtain ⟨w,hw,dG⟩:=r.get hy
 refine call_meets F.slot_list_pop ⟨_,e,rfl⟩ F.entry_list_pop (F.args_list_pop_2 _ _)
  (MeetsSeq.list_pop_at l its.toArray n i t k w (fitsIndex_both h1 h2) (by rw [yV,<-hl];exact hk) (by rw [<-Array.getElem?_toList];exact hw) (by rw [yV];omega)) ⟨e,?_⟩
 refine ⟨y,_,I.lset (its':=its.eraseIdx k) hH e ?_ (r.eraseIdx k) ?_,dG,q⟩
 ·show its.toArray.eraseIdxIfInBounds k=(its.eraseIdx k).toArray
  rw [List.eraseIdxIfInBounds_toArray]
 ·have:=C_ xs k
  omega
def MC:R2:=λx y H Q=>∃l b xs zs,x=.ref l/\y=.ref b/\H l=some (.lst xs)/\H b=some (.lst zs)/\xs.length+zs.length<=sizeLine/\∀p,H p=none->Q (.ref p) (upd H p (.lst (xs++zs)))
def MD:bf X (binaryOp .Add) MC:=by
 intro pins s U H x y v u Q I rx ry h
 obtain ⟨l,b,xs,zs,rfl,rfl,hH,hB,hz,q⟩:=h
 cases rx
 cases ry
 obtain ⟨z,its,n,r,hl,e⟩:=I.lstM hH
 obtain ⟨z2,aM,n2,r2,hl2,e2⟩:=I.lstM hB
 refine PySem.P.add_list e e2 ?_ (by rw [yV,yV];omega)
 have ea:its.toArray++aM.toArray=(its++aM).toArray:=by simp
 rw [ea]
 exact ⟨.ref _,_,I.lnew (t':=s.toks) (r.append r2) (by rw [iA];omega),rfl,q _ I.fresh⟩
end
section
variable {prog:Program}{w:World}{A:Around}{E:Aa}{s:Shared}
end
section
variable {X:Cx}
end
end L2
namespace Att
open PySem PySem.W PySem.Calls PyProof.Rows
def MF {P:Params}{h:Heap}:∀(ns:List Int) (vs:Af),WellAll P h vs (ns.map WData.int)->IntsAre vs ns:=by
 intro ns
 induction ns with
 | nil =>
  intro vs w
  rw [List.map_nil] at w
  cases w
  exact .nil
 | cons n ns ih =>
  intro vs w
  rw [yo] at w
  cases w with
  | cons a b =>
   cases a
   exact .cons _ _ (ih _ b)
theorem MJ {l:OpenLaw}{n:Nat}(hn:l.most=some n) {P:Params}{h:Heap}{args:List WData}{vals:Af}
  (nI:l.row.toRowW.claim.pre args=true) (hwl:WellAll P h vals args) :
  ∃a vs ns,vals=[Value.ref a]/\args=[WData.list (ns.map WData.int)]/\h.get? a=some { cls:=.type "list", data:=.seq vs.toArray }/\IntsAre vs ns/\ns.length<=n:=by
 have MK:WShape.hasAll [] args [.list .int]=true:=(pre_splitW nI).1
 have hc:l.pre.holds [] { args:=args }=true:=(pre_splitW nI).2
 obtain ⟨d,r,rfl,h1,h2⟩:=hasAllW_cons MK
 obtain rfl:=hasAllW_nil h2
 obtain ⟨xs,rfl,h3⟩:=hasW_list h1
 obtain ⟨ns,rfl⟩:=items_int h3
 have hlen:ns.length<=n:=by
  unfold OpenLaw.pre at hc
  have h4:(WTm.not (.lt (.lit (.int (n:Int))) (.len (.arg 0)))).holds [] { args:=[.list (ns.map .int)] }=true:=by
   have h4:=(holds_andW hc).1
   rw [hn] at h4
   exact h4
  have h5:=condW_of h4 (w_not (w_lt w_lit (w_len_list (w_arg rfl))))
  rw [yM] at h5
  refine Nat.le_of_not_lt λq=>?_
  have q':(n:Int)<((ns.length:Nat):Int):=by omega
  first
   | (rw [jJ q'] at h5;exact absurd h5 (by decide))
   | (simp at h5;omega)
 cases hwl with
 | cons w1 w2 =>
  cases w2
  cases w1 with
  | list ho fE=>exact ⟨_,_,ns,rfl,rfl,ho,MF ns _ fE,hlen⟩
def ML (l:OpenLaw) (args:List WData):l.row.toRowW.claim.post args (.bool true) args=true :=
 postW_of (r:=l.row.toRowW) (X:=(true==true))
  (show WShape.has [] (.bool true) .bool=true by first|rfl|decide|simp [WShape.has,WShape.arms,WShape.armsAll])
  (show (WTm.eq .res (.lit (.bool true))).value [] { args:=args,res:=some (.bool true),after:=args }=some (.bool (true==true)) from w_eq_bool (w_res rfl) w_lit) rfl
def attach_call {l:OpenLaw}{n:Nat}{q:Program}{loose:Ad}{XP:(Ab)->Heap->Prop}{YP:World->Heap->Prop}{d:DefRec}
  (hn:l.most=some n) (pS:d.params.defaults=[])
  (call:∀(w:World) (s₀ ak:Shared) (mg mb:Ab) (fa:Addr) (o:Obj) (pm cd doc:Value) (a:Addr) (vs:Af) (ns:List Int),
   Ground q loose [] XP w s₀ mg mb ak.heap->YP w ak.heap ->
   ak.heap.get? fa=some o->o.data=.func (docDef d.name d.params d.body d.scope pm cd doc)->ak.heap.CodeRec cd d.name->mg d.name=some (.ref fa) ->
   ak.heap.get? a=some { cls:=.type "list", data:=.seq vs.toArray }->IntsAre vs ns->ns.length<=n->ak.gens=#[] ->
   codeAny (model l.prog w) callerA (.call (.ref fa) ⟨[.ref a],[]⟩) (λr s'=>r=.ok (.ret (.bool true))/\OldK ak.heap s'.heap/\s'.os=ak.os/\AllBare s'.gens) ak) :
  WalkO q loose XP YP l.row.toRowW d [] (λf vs=>PySem.call f vs):=by
 intro w s₀ ak mg mb G Y fa o pm cd doc dV kV ho hd fN hD hmg hg args vals as nI hlay hrd hwl hlo
 obtain rfl:dV=.none:=Dflts.none hD pS
 obtain rfl:kV=.none:=Dflts.noKw hD
 obtain ⟨a,vs,ns,rfl,rfl,pU,hints,hlen⟩:=MJ hn nI hwl
 refine enter_call (codeAny_mono (call w s₀ ak mg mb fa o pm cd doc a vs ns G Y ho (fd_plain hd) fN hmg pU hints hlen hg) λr s' hq=>?_)
 obtain ⟨rfl,h2,h3,h4⟩:=hq
 exact ⟨.inl ⟨.bool true,.bool true,[],rfl,λ_=>rfl,.bool true,ML l _,λ_=>⟨List.Pairwise.nil,λ_ hm=>(nomatch hm)⟩⟩,h2,h3,h4⟩
section
variable {prog:Program}{w:World}{A:Around}{E:Aa}{s:Shared}{K:Frag}
end
end Att
namespace L2
open PySem PySem.Spec PyProof.Rows
theorem Dd:∀{vs:Af}{ns:List Int},IntsAre vs ns->Vals (ns.map V.int) vs
 | _,_,.nil=>.nil
 | _,_,.cons n t h=>.cons ⟨t,rfl⟩ (Dd h)
def Only (H:Hp):Prop:=∀b,H b=none\/∃o xs,H b=some (.frz o (.lst xs))
def MM {P:Program}{w:World}{K:PySem.W.Frag}{mg mb:Ab}{CX:fC}{k:Nat}{fa a:Addr}{fd:FuncData}{x:Str}{sp:Sp}{ak:Shared}{vs:Af}{ns:List Int}
  (KX:K.In ak.heap) (De:ak.heap.Ns mainGlobals mg) (hb:ak.heap.Ns builtinsNs mb) (pV:∀x:Str,x ≠ "__name__" -> mb x=bootBuiltins x) (pW:ak.heap.NoLimit) (hg:ak.gens=#[])
  (ha:ak.heap.get? a=some { cls:=.type "list", data:=.seq vs.toArray }) (hi:IntsAre vs ns) (hl:ns.length<=sizeLine) (hr:bu k callerA)
  (F:∀base:Heap,K.In base->base.Ns mainGlobals mg->bO P w K mg base CX k fa fd [x] sp) (vL:∀(s:Shared) (u:Value),BindsTo s fd ⟨[u],[]⟩ [(x,u)])
  (k9:∀H:Hp,Only H->aZ K H a (ns.map V.int)->sp [.ref a] H (λv _=>v=.bl true) λ_ _ _=>False)
  (vM:∀H e s',CX [] H ak (λ_ _ _=>False) e s'->False) :
  codeAny (model P w) callerA (.call (.ref fa) ⟨[.ref a],[]⟩) (λr s'=>r=.ok (.ret (.bool true))/\OldK ak.heap s'.heap/\s'.os=ak.os/\AllBare s'.gens) ak:=by
 have rv:=Dd hi
 have Df:=hi.length
 have core:∀H:Hp,Only H->aZ K H a (ns.map V.int)->cj P w H ak.heap->(∀b,H b≠none->b=a)->(H a≠none->K.lookup a=none) ->
   codeAny (model P w) callerA (.call (.ref fa) ⟨[.ref a],[]⟩) (λr s'=>r=.ok (.ret (.bool true))/\OldK ak.heap s'.heap/\s'.os=ak.os/\AllBare s'.gens) ak:=by
  intro H hO hS hok hA hK
  have k_:∀{b:Addr} {o:Obj},ak.heap.get? b=some o->H b=none->(fz ak.heap H).get? b=some o:=λe n=>JP e n
  have pQ:∀{b:Addr} {o:Obj} {es:Array DictEntry} {ep:Nat},ak.heap.get? b=some o->o.data=.dict es ep->H b=none:=λ{b o es ep} e d=>by
   cases q:H b with
   | none=>rfl
   | some u =>
    have e':b=a:=hA b (by rw [q];simp)
    subst e'
    rw [ha] at e;cases e
    have d':Data.seq vs.toArray _=Data.dict es ep:=d
    cases d'
  have sx:∀{b:Addr} {m:Ab},ak.heap.Ns b m->(fz ak.heap H).Ns b m:=λ{b m} ⟨o,es,ep,e,d,r⟩=>⟨o,es,ep,k_ e (pQ e d),d,r⟩
  have Dg:K.In (fz ak.heap H):=λb o e=>k_ (KX b o e) (by
   cases q:H b with
   | none=>rfl
   | some u =>
    have e':b=a:=hA b (by rw [q];simp)
    subst e'
    rw [hK (by rw [q];simp)] at e;cases e)
  have hM:Mod K mg (fz ak.heap H):=⟨Dg,sx De,⟨mb,sx hb,pV⟩,let ⟨mc,h1,h2⟩:=pW;⟨mc,sx h1,h2⟩⟩
  have e0:gF P w K mg (fz ak.heap H) callerA [] ak H:=⟨rfl,hM,λb o e=>JQ e,Nat.le_of_eq (JO _ _),trivial,λb hb=>absurd (show b∈([]:Ae) from hb) (by simp),hok,.of_eq hg⟩
  refine codeAny_mono ((F _ Dg (sx De)).run callerA [] ak H ⟨[.ref a],[]⟩ [.ref a] [.ref a] _ _ hr e0 (vL ak (.ref a)) (.cons rfl .nil) (k9 H hO hS)) λr s' h=>?_
  cases r with
  | error e=>exact (vM H e s' h).elim
  | ok fl =>
   cases fl with
   | next=>exact h.elim
   | brk=>exact h.elim
   | cont=>exact h.elim
   | ret u =>
    obtain ⟨v,H',os,bare,un,Dh,r',q⟩:=h
    have q':v=.bl true:=q
    subst q'
    obtain rfl:u=Value.bool true:=r'
    refine ⟨rfl,OldK.of_keep λb o e=>?_,os,bare⟩
    cases q:H b with
    | none=>exact un.keep b o e q (by intro z;exact absurd (show b∈([]:Ae) from z) (by simp)) (by simp)
    | some u =>
     rcases hO b with z|⟨ob,xs,z⟩
     ·rw [q] at z;cases z
     ·have z2:=un.frzs b ob _ z
      obtain ⟨e1,_⟩:=hok b _ z
      obtain ⟨e2,_⟩:=Dh b _ z2
      rw [e] at e1;cases e1
      exact e2
 cases hk:K.lookup a with
 | some o =>
  have e:=KX a o hk
  rw [ha] at e
  cases e
  refine core (λ_=>none) (λ_=>.inl rfl) (.inr ⟨_,vs.toArray,_,hk,rfl,rfl,rfl,by rw [yV,Df];exact hl,by simpa using rv⟩) (λb u z=>by have z':(none:Option HO)=some u:=z;cases z') (λb z=>absurd rfl z) λz=>absurd rfl z
 | none =>
  refine core (λb=>if b=a then some (.frz { cls:=.type "list", data:=.seq vs.toArray } (.lst (ns.map V.int))) else none) (λb=>?_) (.inl (.inr ⟨{ cls:=.type "list", data:=.seq vs.toArray },zF rfl⟩)) (λb u z=>?_) (λb z=>?_) λ_=>hk
  ·by_cases hb:b=a
   ·exact .inr ⟨_,_,zF hb⟩
   ·exact .inl (zR hb)
  ·by_cases hb:b=a
   ·have z':=(zF hb).symm.trans z
    cases z'
    subst hb
    exact ⟨ha,by rw [yM];exact hl,vs,_,rv,ha⟩
   ·have z':=(zR hb).symm.trans z
    cases z'
  ·by_cases hb:b=a
   ·exact hb
   ·exact absurd (zR hb) z
abbrev KOf {K:PySem.W.Frag}{h:Heap}(_:K.In h):PySem.W.Frag:=K
def zoE {l:PySem.W.OpenLaw}{n k:Nat}{q:Program}{loose:Ad}{XP:(Ab)->Heap->Prop}{YP:World->Heap->Prop}{d:DefRec}{K:Params->PySem.W.Frag}{CX:World->fC}{sp:World->Sp}{x:Str}
  (hn:l.most=some n) (fA:n<=sizeLine) (pS:d.params.defaults=[]) (hr:bu k callerA)
  (hY:∀(w:World) (h:Heap),YP w h->(K w.params).In h)
  (F:∀(w:World) (mg:Ab) (fa:Addr) (h:Heap),(K w.params).In h->h.Ns mainGlobals mg->mg d.name=some (.ref fa) ->
   ∃fd:FuncData,(∀(s:Shared) (u:Value),BindsTo s fd ⟨[u],[]⟩ [(x,u)]) /\
    ∀base:Heap,(K w.params).In base->base.Ns mainGlobals mg->bO l.prog w (K w.params) mg base (CX w) k fa fd [x] (sp w))
  (k9:∀(w:World) (H:Hp) (a:Addr) (ns:List Int),ns.length<=n->Only H->aZ (K w.params) H a (ns.map V.int)->sp w [.ref a] H (λv _=>v=.bl true) λ_ _ _=>False)
  (vM:∀(w:World) (H:Hp) (s:Shared) (e:Value) (s':Shared),CX w [] H s (λ_ _ _=>False) e s'->False) :
  PySem.W.WalkO q loose XP YP l.row.toRowW d [] (λf vs=>PySem.call f vs):=by
 refine Att.attach_call hn pS λw s₀ ak mg mb fa o pm cd doc a vs ns G Y ho hd fN hmg pU hints hlen hg=>?_
 have KX:=hY w _ Y
 obtain ⟨fd,hb,hF⟩:=F w mg fa _ KX G.T.g hmg
 exact MM KX G.T.g G.T.b G.T.builtins G.T.nolimit hg pU hints (jr hlen fA) hr hF hb (λH hO hS=>k9 w H a ns hlen hO hS) λH e s'=>vM w H ak e s'
def inClass (s:Stmt) (j:Nat):Stmt:=match s with
 | .ClassDef _ _ _ body _ _ _ _ _ _ _=>body.getD j (.Pass ⟨0,0,0,0⟩)
 | _=>.Pass ⟨0,0,0,0⟩
def gL (s:Stmt):Arguments:=match s with
 | .FunctionDef _ a _ _ _ _ _ _ _ _=>a
 | _=>{ posonlyargs:=[],args:=[],vararg:=none,kwonlyargs:=[],kw_defaults:=[],kwarg:=none,defaults:=[] }
def wm (s:Stmt):List Stmt:=match s with
 | .FunctionDef _ _ b _ _ _ _ _ _ _=>b
 | _=>[]
def yc (s:Stmt):Scope:=match s with
 | .FunctionDef _ _ _ _ _ _ sc _ _ _=>sc
 | _=>{ kind:=.function,names:=[],isGenerator:=false,isCoroutine:=false }
abbrev E0:XK:=λ_ _ _=>False
structure e_ (K:PySem.W.Frag) (x qual:Str) (st:Stmt) (f:Addr) (fd:FuncData):Prop where
 ex:∃(oc:Value) (od:Option Addr) (kV doc pm:Value) (an:Option Addr) (aV ct:Value) (fP:Array (Option Value)),
  fd=PySem.W.fnOf x qual (gL st) (wm st) (yc st) .none kV doc pm an aV ct/\K.lookup f=some ⟨oc,od,.func fd,fP⟩/\PySem.W.codeIn K aV qual=true
 kp:PySem.W.keepIn K (.ref f)=true
section
variable {P:Program}{w:World}{K:PySem.W.Frag}{mg:Ab}{base:Heap}
def e_.binds {x qual:Str}{st:Stmt}{f:Addr}{fd:FuncData}{ps:Ad}(F:e_ K x qual st f fd)
  (h:∀(kV doc pm:Value) (an:Option Addr) (aV ct:Value) (us:Af),us.length=ps.length->bindArgs (PySem.W.fnOf x qual (gL st) (wm st) (yc st) .none kV doc pm an aV ct) ⟨us,[]⟩=pure (ps.zip us)):Binds K fd ps []:=by
 obtain ⟨oc,od,kV,doc,pm,an,aV,ct,fP,rfl,lk,fN⟩:=F.ex
 exact .all (h kV doc pm an aV ct)
def n_ {x qual:Str}{st:Stmt}{f:Addr}{oc:Value}{od an:Option Addr}{fP:Array (Option Value)}{kV doc pm aV ct:Value}(l:K.lookup f=some ⟨oc,od,.func (PySem.W.fnOf x qual (gL st) (wm st) (yc st) .none kV doc pm an aV ct),fP⟩)
  (c:PySem.W.codeIn K aV qual=true) (k:PySem.W.keepIn K (.ref f)=true):e_ K x qual st f (PySem.W.fnOf x qual (gL st) (wm st) (yc st) .none kV doc pm an aV ct):=⟨⟨oc,od,kV,doc,pm,an,aV,ct,fP,rfl,l,c⟩,k⟩
end
section
variable {X:Cx}
def pv (i:Nat) {x:Str} {pos:Pos} (hN:X.N[i]?=some x:=by rfl) (hv:pB X.env.scope x:=by first|exact Or.inl rfl|exact Or.inr (Or.inl rfl)|exact Or.inr (Or.inr rfl)) (hd:(x==("__debug__" : Str))=false:=by decide)
  (fN:(x==("__classdict__" : Str))=false:=by decide):PE X (.Name x pos) (Cy i):=Cz hN hv hd fN
end
end L2
set_option maxHeartbeats 4000000
namespace L2
open PySem PySem.Spec PyProof.Rows
theorem Di {l z D b:Nat}(h1:l<z) (h2:z=D) (h3:D<=b) (h4:b=l):False:=by omega
theorem l9 {b D C:Nat}(h1:b<D) (h2:C=D+1) (h3:b=C):False:=by omega
theorem Dj {b e d:Nat}(h1:b<e) (h2:e<=d) (h3:d<=b):False:=by omega
theorem Dk {b D p:Nat}(h1:b<D) (h2:p=D) (h3:p=b):False:=by omega
theorem vN (env:Env):∀(l:List (Str×NameKind)) (acc:List (Str×Addr)),(∀p∈l,p.2=.free->∃c,env.cells.lookup p.1=some c) ->
  ∃cl,(forIn l acc (λ(x:Str×NameKind) (cs:List (Str×Addr))=>if (x.snd==NameKind.free)=true then do
            let a <-cellOf env x.fst
            pure (ForInStep.yield ((x.fst,a)::cs))
      else pure (ForInStep.yield cs)):Sem (List (Str×Addr)))=pure cl /\
   (∀y c,(y,c)∈cl->(y,c)∈acc\/(env.cells.lookup y=some c/\(y,NameKind.free)∈l))/\(∀p∈acc,p∈cl)/\(∀y,(y,NameKind.free)∈l->∃c,(y,c)∈cl)
 | [],acc,_=>⟨acc,rfl,λ_ _ h=>.inl h,λ_ h=>h,λ_ h=>nomatch h⟩
 | (n,k)::r,acc,fE=>by
  by_cases hk:k=.free
  ·subst hk
   obtain ⟨c,hc⟩:=fE (n,.free) yO rfl
   obtain ⟨cl,e,h1,h2,h3⟩:=vN env r ((n,c)::acc) λp hp=>fE p (yX _ hp)
   refine ⟨cl,?_,λy d hy=>?_,λp hp=>h2 p (yX _ hp),λy hy=>?_⟩
   ·rw [List.forIn_cons]
    simp only [beq_self_eq_true,iB]
    have:cellOf env n=pure c:=by unfold cellOf;rw [hc]
    rw [this]
    exact e
   ·rcases h1 y d hy with q|q
    ·rcases yz.mp q with q|q
     ·cases q
      exact .inr ⟨hc,yO⟩
     ·exact .inl q
    ·exact .inr ⟨q.1,yX _ q.2⟩
   ·rcases yz.mp hy with q|q
    ·cases q
     exact ⟨c,h2 _ yO⟩
    ·exact h3 y q
  ·obtain ⟨cl,e,h1,h2,h3⟩:=vN env r acc λp hp=>fE p (yX _ hp)
   refine ⟨cl,?_,λy d hy=>?_,h2,λy hy=>?_⟩
   ·rw [List.forIn_cons]
    have:(k==NameKind.free)=false:=by simpa using hk
    simp only [this,Bool.false_eq_true,if_false]
    exact e
   ·rcases h1 y d hy with q|q
    ·exact .inl q
    ·exact .inr ⟨q.1,yX _ q.2⟩
   ·rcases yz.mp hy with q|q
    ·cases q
     exact absurd rfl hk
    ·exact h3 y q
theorem Dl {β:Type}{y:Str}:∀{l:List (Str×β)}{c:β},(y,c)∈l->∃d,l.lookup y=some d
 | (n,b)::r,c,h=>by
  rw [gd]
  cases e:y==n with
  | true=>exact ⟨b,rfl⟩
  | false =>
   rcases yz.mp h with q|q
   ·cases q
    simp at e
   ·exact Dl q
def Dm (env:Env) (scope:Scope) (fE:∀p∈scope.names,p.2=.free->∃c,env.cells.lookup p.1=some c) :
  ∃cl,closureFor scope env=pure cl/\(∀y c,cl.lookup y=some c->env.cells.lookup y=some c)/\(∀y,(y,NameKind.free)∈scope.names->∃c,cl.lookup y=some c):=by
 obtain ⟨cl,e,h1,_,h3⟩:=vN env scope.names [] fE
 refine ⟨cl,?_,λy c hy=>?_,λy hy=>?_⟩
 ·simp only [closureFor]
  rw [e]
  rfl
 ·rcases h1 y c (PySem.mem_of_lookup hy) with z|z
  ·cases z
  ·exact z.1
 ·obtain ⟨c,hc⟩:=h3 y hy
  exact Dl hc
structure du (sc scope:Scope) (x:Str):Prop where
 kind:scope.kind=.function
 ncell:∀y∈scope.names,y.2 ≠ .cell
 names:∀y∈scope.names,y.2=.local->scope.names.lookup y.1=some .local/\(y.1=x\/y.1 = ".0")
 hx:scope.names.lookup x=some .local
 free:∀y∈scope.names,y.2=.free->sc.names.lookup y.1=some .cell
def lg (X:Cx) (M:Ad) (scope:Scope) (cl:List (Str×Addr)) (x:Str) (C:Addr) (aa:Shared) (ag:Hp) (fp:Ae) (E:Aa):Cx :=
 { X with N:=x::M,s₀:=aa,H₀:=ag,env:=compEnvC scope cl C X.env,outer:=X.stack,ex:=fp,fn:=λ_=>false,pn:=[],xe:=E }
def Hid (scope:Scope) (M N:Ad):Prop:=M.length=N.length/\∀p∈M.zip N,p.1=p.2\/p.1∉scope.names.map Prod.fst
def Hid.refl {scope:Scope}{N:Ad}:Hid scope N N:=⟨rfl,λp hp=>.inl (by
 obtain ⟨i,hi,e⟩:=List.getElem_of_mem hp
 rw [List.getElem_zip] at e
 rw [<-e])⟩
def Hid.get {scope:Scope}{M N:Ad}(h:Hid scope M N) {i:Nat}{y:Str}(e:M[i]?=some y):N[i]?=some y\/y∉scope.names.map Prod.fst:=by
 obtain ⟨hi,ei⟩:=yl.mp e
 have hj:i<N.length:=h.1▸hi
 have hm:(M[i],N[i])∈M.zip N:=jV (i:=i) (by rw [List.getElem?_zip_eq_some];exact ⟨yB hi,yB hj⟩)
 rcases h.2 _ hm with q|q
 ·exact .inl (by rw [yB hj,<-ei];exact congrArg some q.symm)
 ·exact .inr (by rw [<-ei];exact q)
def Dp (X:Cx) (scope:Scope) (cl:List (Str×Addr)) (x:Str) (C:Addr) (aa:Shared) (ag:Hp) (fp:Ae) (E:Aa):Cx :=
 { X with N:=x::X.N,s₀:=aa,H₀:=ag,env:=compEnvC scope cl C X.env,outer:=X.stack,ex:=fp,fn:=λ_=>false,pn:=[],xe:=E }
section
variable {X:Cx}{scope:Scope}{cl:List (Str×Addr)}{x:Str}
def lh {env:Env}{y:Str}{k:NameKind}(h:(relabel scope env).names.lookup y=some k):∃k0,(y,k0)∈scope.names/\((k0=.free/\env.kindOf y=some .cell/\k=.cell)\/(k=k0/\¬(k0=.free/\env.scope.kind=.function/\env.kindOf y=some .cell))):=by
 have hm:=PySem.mem_of_lookup h
 obtain ⟨⟨n,k0⟩,hn,e⟩:=jd.mp hm
 by_cases hc:(k0==NameKind.free&&env.scope.kind == .function&&env.kindOf n==some .cell)=true
 ·have e':(n,NameKind.cell)=(y,k):=by rw [<-e];simp only [hc,iB]
  cases e'
  simp only [w9,beq_iff_eq] at hc
  exact ⟨_,hn,.inl ⟨hc.1.1,hc.2,rfl⟩⟩
 ·have e':(n,k0)=(y,k):=by rw [<-e];simp only [hc,if_false];rfl
  cases e'
  refine ⟨_,hn,.inr ⟨rfl,λ⟨a,b,c⟩=>hc ?_⟩⟩
  simp [a,b,c]
def Dq (S:du X.env.scope scope x) {y:Str} (h:(relabel scope X.env).names.lookup y=some .local):y=x\/y = ".0" := by
 obtain ⟨k0,hm,⟨_,_,e⟩|⟨e,_⟩⟩:=lh h
 ·cases e
 ·subst e
  exact (S.names _ hm rfl).2
def vO (S:du X.env.scope scope x) (hk:X.env.scope.kind=.function) {y:Str}(h:(relabel scope X.env).names.lookup y=some .cell\/(relabel scope X.env).names.lookup y=some .free):(y,NameKind.free)∈scope.names:=by
 rcases h with h|h
 ·obtain ⟨k0,hm,⟨e,_,_⟩|⟨e,_⟩⟩:=lh h
  ·subst e;exact hm
  ·subst e;exact absurd rfl (S.ncell _ hm)
 ·obtain ⟨k0,hm,⟨_,_,e⟩|⟨e,n⟩⟩:=lh h
  ·cases e
  ·subst e
   exact hm
end
def MP {P:Program}{wd:World}{B:Around}{Z:Result->Shared->Prop}{u0:Shared}{el tg iter:Expr}{sc:Scope}{ps:Pos}{iv ac:Value}{ev:Env}(J0:Nat->Shared->Prop)
  (turn:∀k u,J0 k u->wpAny (model P wd) B (pyNext iv) (λr u1=>match r with|none=>Z (.ok .next) u1|some v=>wpAny (model P wd) B (letOwnedTupleGo tg iv v) (λ_ u2 =>
   wpAny (model P wd) B (assign tg ev v) (λ_ u3=>wpAny (model P wd) B (eval el ev) (λy u4=>wpAny (model P wd) B (call (.builtin "list.append") [ac,y]) (λ_ u5=>∃m,m<k/\J0 m u5)
    (notedBy (model P wd) B ev λe u=>Z (.error e) u) u4) (notedBy (model P wd) B ev λe u=>Z (.error e) u) u3) (notedBy (model P wd) B ev λe u=>Z (.error e) u) u2) (notedBy (model P wd) B ev λe u=>Z (.error e) u) u1)
   (notedBy (model P wd) B ev λe u=>Z (.error e) u) u)
  (k0:Nat) (kq:J0 k0 u0):codeAny (model P wd) B (.compLoop (.ListComp el [⟨tg,iter,[],0⟩] sc ps) 0 iv ac ev) Z u0:=by
 refine codeAny_loop rfl J0 (λk u hJ=>wpAny_noted (E:=λe u=>Z (.error e) u) (env:=ev) (m:=compTurn (.ListComp el [⟨tg,iter,[],0⟩] sc ps) 0 iv ac ev) ?_) k0 kq
 rw [compTurn_list1]
 have one:=turn k u hJ
 refine zA (wpAny_standAt (zA (wj one (λr u1 q1=>?_) λ_ _ z=>z)))
 cases r with
 | none=>exact yg q1
 | some v =>
  refine zA (wj q1 (λ_ u2 q2=>zA (wj q2 (λ_ u3 q3=>?_) λ_ _ z=>z)) λ_ _ z=>z)
  exact zA (zA (wj q3 (λy u4 q4=>zA (wj q4 (λ_ u5 q5=>yg (yg ⟨rfl,q5⟩)) λ_ _ z=>z)) λ_ _ z=>z))
def l_ (J:It) (te:TE) (U:St) (Q:VK) (H1:Hp):Prop:=∃W:Nat->Nat->List V->Hp->Prop,(∃m,W 0 m [] H1)/\∀i m ys H,W i m ys H ->
 (J.stop i H/\ys.length<=sizeLine/\∀l,H l=none->Q (.ref l) (upd H l (.lst ys))) \/
 (J.go i H/\ys.length<=sizeLine/\∀z H',J.yld i H z H'->te (some z::U) H' λy H2=>∃m',m'<m/\W (i+1) m' (ys++[y]) H2)
def Dr (wi:TI) (te:TE):TE:=λU H Q=>wi U H λJ H1=>l_ J te U Q H1
end L2
namespace L2
open PySem PySem.Spec PyProof.Rows PySem.W
structure dv (sc scope:Scope) (xs:Ad):Prop where
 kind:scope.kind=.function
 ncell:∀y∈scope.names,y.2 ≠ .cell
 names:∀y∈scope.names,y.2=.local->scope.names.lookup y.1=some .local/\(y.1∈xs\/y.1 = ".0")
 free:∀y∈scope.names,y.2=.free->sc.names.lookup y.1=some .cell
def eD (X:Cx) (scope:Scope) (cl:List (Str×Addr)) (xs:Ad) (C:Addr) (aa:Shared) (ag:Hp) (fp:Ae) (E:Aa):Cx :=
 { X with N:=xs++X.N,s₀:=aa,H₀:=ag,env:=compEnvC scope cl C X.env,outer:=X.stack,ex:=fp,fn:=λ_=>false,pn:=[],xe:=E }
def fZ (X:Cx) (M:Ad) (scope:Scope) (cl:List (Str×Addr)) (xs:Ad) (C:Addr) (aa:Shared) (ag:Hp) (fp:Ae) (E:Aa):Cx :=
 { X with N:=xs++M,s₀:=aa,H₀:=ag,env:=compEnvC scope cl C X.env,outer:=X.stack,ex:=fp,fn:=λ_=>false,pn:=[],xe:=E }
section
variable {X:Cx}{scope:Scope}{xs:Ad}
def Ds (S:dv X.env.scope scope xs) {y:Str} (h:(relabel scope X.env).names.lookup y=some .local):y∈xs\/y = ".0" := by
 obtain ⟨k0,hm,⟨_,_,e⟩|⟨e,_⟩⟩:=lh h
 ·cases e
 ·subst e
  exact (S.names _ hm rfl).2
def vP (S:dv X.env.scope scope xs) (hk:X.env.scope.kind=.function) {y:Str}(h:(relabel scope X.env).names.lookup y=some .cell\/(relabel scope X.env).names.lookup y=some .free):(y,NameKind.free)∈scope.names:=by
 rcases h with h|h
 ·obtain ⟨k0,hm,⟨e,_,_⟩|⟨e,_⟩⟩:=lh h
  ·subst e;exact hm
  ·subst e;exact absurd rfl (S.ncell _ hm)
 ·obtain ⟨k0,hm,⟨_,_,e⟩|⟨e,n⟩⟩:=lh h
  ·cases e
  ·subst e
   exact hm
end
def kr (X:Cx) (ifs:List Expr) (t:TT):Prop:=∀(pins:Ac) (s:Shared) (U:St) (H:Hp) (Q:Bool->Hp->Prop),Inv X pins U H s->t U H Q ->
 wpAny (model X.prog X.w) X.A (forIn ifs true λc r=>if r=true then do let ok <-isTrue c X.env (eval c X.env);pure (ForInStep.yield ok) else pure (ForInStep.yield r)) (TP X pins U Q) X.xe s
def og:TT:=λ_ H Q=>Q true H
def Dt {X:Cx}:kr X [] og:=λpins s U H Q I h=>wpAny_tests_nil ⟨H,I,h⟩
def Du {X:Cx}{c:Expr}{t:TT}(h:PT X c t):kr X [c] t:=λpins s U H Q I q=>wpAny_tests_one (h pins s U H Q I q)
def kr.nox {X:Cx}{ifs:List Expr}{t:TT}(h:kr X.nox ifs t):kr X ifs t:=λpins s U H Q I hw =>
 wj (h pins s U H Q (I.wish _) hw) (λb s' ⟨H',I',q⟩=>⟨H',I'.unwish,q⟩) λ_ _ z=>z.elim
def MQ {P:Program}{wd:World}{B:Around}{Z:Result->Shared->Prop}{u0:Shared}{el tg iter:Expr}{ifs:List Expr}{sc:Scope}{ps:Pos}{iv ac:Value}{ev:Env}(J0:Nat->Shared->Prop)
  (turn:∀k u,J0 k u->wpAny (model P wd) B (pyNext iv) (λr u1=>match r with|none=>Z (.ok .next) u1|some v=>wpAny (model P wd) B (letOwnedTupleGo tg iv v) (λ_ u2 =>
   wpAny (model P wd) B (assign tg ev v) (λ_ u3=>wpAny (model P wd) B (forIn ifs true λc r=>if r=true then do let ok <-isTrue c ev (eval c ev);pure (ForInStep.yield ok) else pure (ForInStep.yield r)) (λok u4 =>
    if ok=true then wpAny (model P wd) B (eval el ev) (λy u5=>wpAny (model P wd) B (call (.builtin "list.append") [ac,y]) (λ_ u6=>∃m,m<k/\J0 m u6)
    (notedBy (model P wd) B ev λe u=>Z (.error e) u) u5) (notedBy (model P wd) B ev λe u=>Z (.error e) u) u4 else ∃m,m<k/\J0 m u4) (notedBy (model P wd) B ev λe u=>Z (.error e) u) u3) (notedBy (model P wd) B ev λe u=>Z (.error e) u) u2) (notedBy (model P wd) B ev λe u=>Z (.error e) u) u1)
   (notedBy (model P wd) B ev λe u=>Z (.error e) u) u)
  (k0:Nat) (kq:J0 k0 u0):codeAny (model P wd) B (.compLoop (.ListComp el [⟨tg,iter,ifs,0⟩] sc ps) 0 iv ac ev) Z u0:=by
 refine codeAny_loop rfl J0 (λk u hJ=>wpAny_noted (E:=λe u=>Z (.error e) u) (env:=ev) (m:=compTurn (.ListComp el [⟨tg,iter,ifs,0⟩] sc ps) 0 iv ac ev) ?_) k0 kq
 rw [compTurn_list]
 have one:=turn k u hJ
 refine zA (wpAny_standAt (zA (wj one (λr u1 q1=>?_) λ_ _ z=>z)))
 cases r with
 | none=>exact yg q1
 | some v =>
  refine zA (wj q1 (λ_ u2 q2=>zA (wj q2 (λ_ u3 q3=>zA (wj q3 (λok u4 q4=>?_) λ_ _ z=>z)) λ_ _ z=>z)) λ_ _ z=>z)
  cases ok with
  | true=>exact zA (zA (wj q4 (λy u4 q4=>zA (wj q4 (λ_ u5 q5=>yg (yg ⟨rfl,q5⟩)) λ_ _ z=>z)) λ_ _ z=>z))
  | false=>exact zA (yg (yg ⟨rfl,q4⟩))
def ku (J:It) (gt:TG) (tt:TT) (te:TE) (n:Nat) (U:St) (Q:VK) (H1:Hp):Prop:=∃W:Nat->Nat->List V->Hp->Prop,(∃m,W 0 m [] H1)/\∀i m ys H,W i m ys H ->
 (J.stop i H/\ys.length<=sizeLine/\∀l,H l=none->Q (.ref l) (upd H l (.lst ys))) \/
 (J.go i H/\ys.length<=sizeLine/\∀z H',J.yld i H z H'->gt z (List.replicate n none++U) H' λar H1=>∃own:St,ar=own++U/\own.length=n/\tt ar H1 λb H2 =>
  if b=true then te ar H2 λy H3=>∃m',m'<m/\W (i+1) m' (ys++[y]) H3 else ∃m',m'<m/\W (i+1) m' ys H2)
def vQ (wi:TI) (gt:TG) (tt:TT) (te:TE) (n:Nat):TE:=λU H Q=>wi U H λJ H1=>ku J gt tt te n U Q H1
theorem Dv {X:Cx} {elt iter tg:Expr} {ifs:List Expr} {xs:Ad} {pos:Pos} {scope:Scope} {wi:TI} {gt:TG} {tt:TT} {te:TE} {M:Ad} (hc:X.calm=true) (S:dv X.env.scope scope xs) (eN:Hid scope M X.N) (cH:((".0" : Str)::(xs++M)).Nodup)
  (hi:PI X tg iter wi) (vR:∀cl C aa ag fp E,PG (fZ X M scope cl xs C aa ag fp E) tg gt) (ma:∀cl C aa ag fp,kr (fZ X M scope cl xs C aa ag fp (λ_ _=>False)) ifs tt) (he:∀cl C aa ag fp,PE (fZ X M scope cl xs C aa ag fp (λ_ _=>False)) elt te)
  (hs:∀v,foldedSetIterable iter X.env v=pure v:=by intro _;rfl):PE X (.ListComp elt [⟨tg,iter,ifs,0⟩] scope pos) (vQ wi gt tt te xs.length):=by
 intro pins s U H Q I h
 have hN:(xs++M).Nodup:=(jB.mp cH).2
 have vS:(".0" : Str)∉M:=λz=>(jB.mp cH).1 (jm _ z)
 obtain ⟨cl,mf,dh,lj⟩:=Dm X.env scope λp hp hf=>I.ok.has p.1 (.inl (S.free p hp hf))
 have mh:X.env.scope.kind=.function:=I.ok.kind
 rw [eval_ListComp]
 refine wpAny_comprehension_free (use:=none) rfl hs mf S.kind (λy hy hl=>(S.names y hy hl).1) ?_
 refine aO (hi pins s U H _ I h) λv s1 h1=>aO h1 λrZ aa h2=>?_
 obtain ⟨it,fp,tn,J,H2,e,I2,T,ax,f2,W,⟨m0,w0⟩,turn⟩:=h2
 subst e
 refine kg (wpAny_newFunctionEnv S.ncell (by intro y hy;simp at hy) (λay aB az=>?_) S.kind)
 dsimp only at aB az ⊢
 generalize hH2:aa.heap.push { cls:=.type "list", dict:=none,data:=.seq ([]:Af).toArray }=G2 at aB az ⊢
 have hC:G2.objs.size=aa.heap.objs.size+1:=by rw [<-hH2,Heap.size_push]
 have iM:aa.heap.objs.size≠G2.objs.size:=by rw [hC];exact jg (wv _)
 have Dw:aa.heap.objs.size<=G2.objs.size:=by rw [hC];exact Nat.le_succ _
 have old:∀b o,aa.heap.get? b=some o->ay.get? b=some o:=λb o e=>by
  have hb:b≠G2.objs.size:=by rw [hC];exact jg (Nat.lt_succ_of_lt (yF e))
  exact az.extBut b o hb (yC _ (hH2▸yC _ e))
 have pX:ay.get? aa.heap.objs.size=some { cls:=.type "list", data:=.seq (#[]:Array Value) 0 }:=az.extBut _ _ iM (yC _ (hH2▸jq _ rfl))
 generalize hD:aa.heap.objs.size=D at *
 generalize hCC:G2.objs.size=C at *
 have eE:∀{b:Nat} {o:Obj},aa.heap.get? b=some o->b<D:=λe=>by rw [<-hD];exact yF e
 have nofr:∀b,D<=b->b∉dc X.stack:=λb hb z=>by
  rcases yz.mp (I2.stkSub b z) with q|q
  ·exact Di I2.lt hD hb q
  ·exact I2.nofs (by rw [hD];exact hb) q
 let E':Aa:=notedBy (model X.prog X.w) X.A (compEnvC scope cl C X.env) λe s'=>compPost (model X.prog X.w) X.A X.xe none (EP X pins U Q) (.ref D) C (.error e) s'
 let Y:Cx:=fZ X M scope cl xs C aa H2 fp E'
 have dH:∀b∈fp,df X pins H2 b:=f2
 have mi:Y.Ok:=by
  refine ⟨I2.ok.mod,S.kind,I2.ok.glob,I2.ok.blt,(by show aa.heap.objs.size<=C;omega),λy z c h1 h2=>?_,λy hy=>?_,λy c hf=>?_,I2.ok.hd,I2.ok.frames,.inl rfl,λb hb=>?_,I2.bs,jr I2.ok.bsz I2.sz,λb o hb hx=>?_,λb hb hx=>?_,I2.stack,I2.stkFree⟩
  ·exact I2.ok.inj y z c (dh y c h1) (dh z c h2)
  ·exact lj y (vP S mh hy)
  ·cases hf
  ·refine ⟨λz=>?_,λy c hy=>(dH b hb).2.2.2.2.1 y c (dh y c hy)⟩
   obtain ⟨o,ho,_⟩:=T.obj 0 _ ax b hb
   exact l9 (eE ho) hC z
  ·rcases (dH b hx).2.2.2.1 with z|z
   ·exact I2.ok.noex b o hb z
   ·exact Dj (yF hb) I2.ok.bsz z
  ·rcases yz.mp (I2.stkSub b hx) with q|q
   ·exact (dH b hb).2.1 q
   ·exact (dH b hb).2.2.1 q
 have fR:∀{s':Shared} {H':Hp} {o:Obj},s'.heap.get? D=some o->H' D=none->(∀v,o.data ≠ .cell v)->∀p∈[(D,o)],s'.heap.get? p.1=some p.2/\H' p.1=none/\p.1≠Y.env.locals/\p.1∉Y.fs/\∀v,p.2.data ≠ .cell v:=λ{s' H' o} e1 e2 e3 p hp=>by
  have ep:p=(D,o):=by simpa using hp
  subst ep
  exact ⟨e1,e2,iM,nofr D (yk _),e3⟩
 have I0:Inv Y [(D,{ cls:=.type "list", data:=.seq (#[]:Array Value) 0 })] (List.replicate xs.length none++U) H2 { aa with heap:=ay,toks:=aa.toks+([]:List (Str×Value)).length }:=by
  have fresh:∀b,D<=b->H2 b=none:=λb hb=>I2.hok.fresh (by rw [hD];exact hb)
  refine ⟨mi,rfl,I2.bare,Un.kept old,⟨_,aB,λi y v e1 e2 e3=>?_⟩,λy c hy=>?_,fresh C (by omega),λy c hy=>I2.freeC y c (dh y c hy),λp hp=>fR pX (fresh D (yk _)) (λv z=>by cases z) p hp,I2.hok.kept old,?_⟩
  ·by_cases bh:i<xs.length
   ·rw [wQ (by simpa using bh),List.getElem?_replicate] at e2
    simp [bh] at e2
   ·obtain ⟨j,rfl⟩:∃j,i=xs.length+j:=⟨i-xs.length,by omega⟩
    have pY:M[j]?=some y:=by
     have:(xs++M)[xs.length+j]?=some y:=e1
     rw [iC (by omega)] at this
     simpa using this
    have vT:X.N[j]?=some y:=by
     rcases eN.get pY with q|q
     ·exact q
     ·refine absurd ?_ q
      rcases e3 with e3|e3|e3<;>(obtain ⟨k0,hm,_⟩:=lh e3;exact jd.mpr ⟨_,hm,rfl⟩)
    have vU:U[j]?=some (some v):=by
     rw [iC (by simp)] at e2
     simpa using e2
    have lp:¬(y∈xs\/y = ".0"):=λz=>by
     have hm:=jV pY
     rcases z with z|z
     ·exact (List.nodup_append.mp hN).2.2 y z y hm rfl
     ·rw [z] at hm
      exact vS hm
    have fF:(y,NameKind.free)∈scope.names:=by
     rcases e3 with e3|e3|e3
     ·exact absurd (Ds S e3) lp
     ·exact vP S mh (.inl e3)
     ·exact vP S mh (.inr e3)
    have pZ:X.env.scope.names.lookup y=some .cell:=S.free _ fF rfl
    obtain ⟨m,hn,hl⟩:=I2.loc
    obtain ⟨u,r,l⟩:=hl j y v vT vU (.inr (.inl pZ))
    refine ⟨u,r,?_⟩
    rcases l with ⟨hk,_⟩|⟨_,c,nW,d0⟩
    ·have:X.env.kindOf y=some .cell:=pZ
     rw [this] at hk;cases hk
    ·obtain ⟨c',cX⟩:=lj y fF
     have:=dh y c' cX
     rw [nW] at this
     cases this
     refine .inr ⟨?_,c,cX,?_⟩
     ·rcases e3 with e3|e3|e3
      ·exact absurd (Ds S e3) lp
      ·exact .inl e3
      ·exact .inr e3
     ·obtain ⟨o,ho,hd⟩:=d0
      exact ⟨o,old c o ho,hd⟩
  ·obtain ⟨v,o,ho,hd⟩:=I2.cell y c (dh y c hy)
   exact ⟨v,o,old c o ho,hd⟩
  ·show (List.replicate xs.length none++U).length=(xs++M).length
   simp [I2.len,eN.1]
 have mj:∀{pl:Ac} {H':Hp},(∀p∈pl,p.1=D)->(∀b∈fp,H' b=none)->∀b∈fp,df Y pl H' b:=λ{pl H'} bX hn b hb=>by
  obtain ⟨o,ho,_⟩:=T.obj 0 _ ax b hb
  refine ⟨hn b hb,λz=>?_,?_,.inl hb,(mi.exf b hb).2,λp hp z=>?_⟩
  ·exact l9 (eE ho) hC z
  ·exact mi.exfs b hb
  ·have hp':p∈pl:=by simpa [Y,fZ] using hp
   exact Dk (eE ho) (bX p hp') z
 have loop:codeAny (model X.prog X.w) X.A (.compLoop (.ListComp elt [⟨tg,iter,ifs,0⟩] scope pos) 0 (.ref it) (.ref D) (compEnvC scope cl C X.env))
   (compPost (model X.prog X.w) X.A X.xe none (EP X pins U Q) (.ref D) C) { aa with heap:=ay,toks:=aa.toks+([]:List (Str×Value)).length }:=by
  refine MQ (λn s'=>∃i ys H' its k,Inv Y [(D,{ cls:=.type "list", data:=.seq (its:Af).toArray k })] (List.replicate xs.length none++U) H' s'/\Vals ys its/\tn i s'.heap/\(∀b∈fp,H' b=none)/\W i n ys H') ?_ m0
   ⟨0,[],H2,[],0,I0,.nil,T.keep 0 _ _ ax (λb hb o e=>old b o e),λb hb=>(dH b hb).1,w0⟩
  rintro n s3 ⟨i,ys,H3,its,k,I3,rv,aS,k8,w3⟩
  have gM:∀{o:Obj},∀p∈[(D,o)],p.1=D:=λ{o} p hp=>by
   have ep:p=(D,o):=by simpa using hp
   rw [ep]
  obtain ⟨gD,nD,_,_,_⟩:=I3.pin (D,_) (jm _ yO)
  rcases turn i n ys H3 w3 with ⟨stop,hz,q⟩|⟨go,hz,step⟩
  ·refine aO (T.done Y rfl rfl rfl hc i _ s3 _ H3 E' I3 (mj gM k8) aS stop) λr s4 ⟨hr,I4⟩=>?_
   subst hr
   obtain ⟨vV,mm,_,_,_⟩:=I4.pin (D,_) (jm _ yO)
   obtain ⟨m4,vW,_⟩:=id I4.loc
   refine ⟨m4,vW,λh' dI=>?_⟩
   refine ⟨.ref D,upd H3 D (.lst ys),?_,rfl,q D mm⟩
   have iI:∀{b:Addr} {u:HO},H3 b=some u->b≠C:=λe z=>by
    have:H3 C=none:=I4.free
    rw [z,this] at e;cases e
   refine I2.call' (s':={ s4 with heap:=h' }) (ch:=fp) (H':=upd H3 D (.lst ys)) I4.os ?_ ?_ I4.bare λb hb=>⟨(dH b hb).2.2.2.1,(dH b hb).2.1,(dH b hb).2.2.2.2.1,(dH b hb).2.2.2.2.2⟩
   ·have B:=I4.base
    have mn:∀{b:Nat} {o:Obj},aa.heap.get? b=some o->b≠C:=λe z=>l9 (eE e) hC z
    have mq:∀{b:Addr} {u:HO},H3 b=some u->b≠D:=λe z=>by rw [z,mm] at e;cases e
    refine ⟨λb o e nn hb hx=>(dI.2 b (mn e)).trans (B.keep b o e nn hb hx),λb o e nn hb hx=>?_,λb o e nn hx=>?_,λb o e hx=>?_,λb xs e=>?_,λb o u e=>?_,λb ps e=>?_⟩
    ·obtain ⟨sl,z⟩:=B.slot b o e nn hb hx
     exact ⟨sl,(dI.2 b (mn e)).trans z⟩
    ·have vX:b≠D:=jg (eE e)
     rw [yE vX]
     exact B.free b o e nn hx
    ·obtain ⟨o',z⟩:=B.there b o e hx
     exact ⟨o',(dI.2 b (mn e)).trans z⟩
    ·have z:=B.tups b xs e
     rw [yE (mq z)];exact z
    ·have z:=B.frzs b o u e
     rw [yE (mq z)];exact z
    ·obtain ⟨more,z⟩:=B.tbls b ps e
     exact ⟨more,by rw [yE (mq z)];exact z⟩
   ·intro a o e
    by_cases ha:a=D
    ·subst ha
     rw [jh] at e
     cases e
     exact ⟨hz,its,k,rv,(dI.2 _ iM).trans vV⟩
    ·rw [yE ha] at e
     have fG:∀b u,H3 b=some u->(upd H3 D (.lst ys)) b=some u:=λb u z=>by
      have hb:b≠D:=λw=>by rw [w,mm] at z;cases z
      rw [yE hb];exact z
     refine (I4.hok a o e).stay (λb u hb z=>(dI.2 b ?_).trans z) (λb z=>fG b _ z) λb xs z=>fG b _ z
     rcases hb with hb|hb
     ·rw [hb];exact iI e
     ·exact iI hb
  ·refine aO (T.item Y rfl rfl rfl hc i _ s3 _ H3 E' I3 (mj gM k8) aS go) λr s4 ⟨u,hr,h4⟩=>?_
   subst hr
   refine aO h4 λ_ s5 ⟨z,H5,I5,r5,y5,fO,pJ⟩=>?_
   have pK:=I5.pinned (mj gM pJ) (T.obj _ _ fO)
   have gO:PG Y tg gt:=vR cl C aa H2 fp E'
   have vY:PE Y elt te:=PE.nox (X:=Y) (he cl C aa H2 fp)
   have MR:kr Y ifs tt:=kr.nox (X:=Y) (ma cl C aa H2 fp)
   refine aO (gO _ s5 (List.replicate xs.length none++U) H5 z u _ pK r5 (step z _ y5)) λ_ s6 ⟨aF,H6,I6,own,e1,e2,q6⟩=>?_
   subst e1
   have wk:∀(j:Nat) v,(List.replicate xs.length none++U)[j]?=some (some v)->(own++U)[j]?=some (some v):=λj v e=>by
    by_cases bh:j<xs.length
    ·rw [wQ (by simpa using bh),List.getElem?_replicate] at e
     simp [bh] at e
    ·rw [iC (by simp;omega)] at e
     rw [iC (by omega),e2]
     simpa using e
   have wl:(List.replicate xs.length none++U).length=(own++U).length:=by simp [e2]
   refine aO (MR _ s6 _ _ _ I6 q6) λb s7 ⟨H7,I7,q7⟩=>?_
   cases b with
   | true =>
    refine aO (vY _ s7 _ _ _ I7 q7) λuy s7 ⟨y,H7,I7,ry,m',hm,w7⟩=>?_
    obtain ⟨p7,mw,_,_,_⟩:=I7.pin (D,_) (jm _ (wF _ yO))
    refine wpAny_list_append_plain ⟨k,p7⟩ (λh' bX dI=>?_) (by rw [yV,<-rv.length];exact hz)
    obtain ⟨k',p8⟩:=bX
    have I8:Inv Y [] (own++U) H7 { s7 with heap:=h' }:=(I7.pins_of (pins':=[]) (λp hp=>nomatch hp)).turned (it:=D) (t':=s7.toks) (λb o hb e=>(dI.2 b hb).trans e) mw iM
     (.inr (by show aa.heap.objs.size<=D;omega)) (λa c hy vZ=>by
      obtain ⟨v',o',ho',_⟩:=I2.cell a c (dh a c hy)
      exact jg (eE ho') vZ) (λp hp=>by simp [Y,fZ] at hp)
    have I9:Inv Y [] (List.replicate xs.length none++U) H7 { s7 with heap:=h' }:=I8.weak wl wk
    have d6:∀b∈fp,∃o,s5.heap.get? b=some o/\s7.heap.get? b=some o/\H7 b=none:=λb hb=>by
     obtain ⟨o,e,_⟩:=T.obj _ _ fO b hb
     have q:=I7.pin (b,o) (jm _ (jm _ (pI hb e)))
     exact ⟨o,e,q.1,q.2.1⟩
    have v7:∀b∈fp,b≠D:=λb hb=>by
     obtain ⟨o,ho,_⟩:=T.obj 0 _ ax b hb
     exact jg (eE ho)
    have eT:its.toArray.push uy=(its++[uy]).toArray:=by simp
    rw [eT] at p8
    refine ⟨m',hm,i+1,ys++[y],H7,its++[uy],k',I9.pins_of (fR p8 mw λv e=>by cases e),rv.append (.cons ry .nil),T.keep (i+1) _ _ fO λb hb o e=>?_,λb hb=>?_,w7⟩
    ·obtain ⟨o',e1,e2,_⟩:=d6 b hb
     rw [e] at e1
     cases e1
     exact (dI.2 b (v7 b hb)).trans e2
    ·obtain ⟨_,_,_,q⟩:=d6 b hb
     exact q
   | false =>
    obtain ⟨m',hm,w7⟩:=q7
    obtain ⟨p7,mw,_,_,_⟩:=I7.pin (D,_) (jm _ (wF _ yO))
    have I9:Inv Y [] (List.replicate xs.length none++U) H7 s7:=(I7.pins_of (pins':=[]) (λp hp=>nomatch hp)).weak wl wk
    have d6:∀b∈fp,∃o,s5.heap.get? b=some o/\s7.heap.get? b=some o/\H7 b=none:=λb hb=>by
     obtain ⟨o,e,_⟩:=T.obj _ _ fO b hb
     have q:=I7.pin (b,o) (jm _ (jm _ (pI hb e)))
     exact ⟨o,e,q.1,q.2.1⟩
    refine ⟨m',hm,i+1,ys,H7,its,k,I9.pins_of (fR p7 mw λv e=>by cases e),rv,T.keep (i+1) _ _ fO λb hb o e=>?_,λb hb=>?_,w7⟩
    ·obtain ⟨o',e1,e2,_⟩:=d6 b hb
     rw [e] at e1
     cases e1
     exact e2
    ·obtain ⟨_,_,_,q⟩:=d6 b hb
     exact q
 exact codeAny_compStart_list loop (T.self X.A 0 _ _ _ (T.keep 0 _ _ ax (λb hb o e=>old b o e)) loop)
def v8 {X:Cx} {elt iter tg:Expr} {ifs:List Expr} {xs:Ad} {pos:Pos} {scope:Scope} {wi:TI} {gt:TG} {tt:TT} {te:TE} {N:Ad} (hc:X.calm=true) (S:dv X.env.scope scope xs) (eN:X.N=N) (cH:((".0" : Str)::(xs++N)).Nodup)
  (hi:PI X tg iter wi) (vR:∀cl C aa ag fp E,PG (eD X scope cl xs C aa ag fp E) tg gt) (ma:∀cl C aa ag fp,kr (eD X scope cl xs C aa ag fp (λ_ _=>False)) ifs tt) (he:∀cl C aa ag fp,PE (eD X scope cl xs C aa ag fp (λ_ _=>False)) elt te)
  (hs:∀v,foldedSetIterable iter X.env v=pure v:=by intro _;rfl):PE X (.ListComp elt [⟨tg,iter,ifs,0⟩] scope pos) (vQ wi gt tt te xs.length) :=
 Dv (M:=X.N) hc S Hid.refl (by rw [eN];exact cH) hi vR ma he hs
def MU {X:Cx} {elt iter:Expr} {x:Str} {px pos:Pos} {scope:Scope} {wi:TI} {te:TE} {M:Ad} (hc:X.calm=true) (S:du X.env.scope scope x) (eN:Hid scope M X.N) (cH:((".0" : Str)::x::M).Nodup)
  (hi:PI X (.Name x px) iter wi) (he:∀cl C aa ag fp,PE (lg X M scope cl x C aa ag fp (λ_ _=>False)) elt te)
  (hs:∀v,foldedSetIterable iter X.env v=pure v:=by intro _;rfl):PE X (.ListComp elt [⟨.Name x px,iter,[],0⟩] scope pos) (Dr wi te):=by
 have hN:([x]++M).Nodup:=(jB.mp cH).2
 have S':dv X.env.scope scope [x]:=⟨S.kind,S.ncell,λy hy h=>⟨(S.names y hy h).1,(S.names y hy h).2.imp (λe=>by rw [e];exact List.mem_singleton_self _) id⟩,S.free⟩
 have gO:∀cl C aa ag fp E,PG (fZ X M scope cl [x] C aa ag fp E) (.Name x px) (gh 0):=λcl C aa ag fp E=>iJ (X:=fZ X M scope cl [x] C aa ag fp E) (i:=0) hN rfl (.inl (wE S.hx)) (.inr (wE S.hx))
 have e:∀U Q,(λJ H1=>l_ J te U Q H1)=λJ H1=>ku J (gh 0) og te 1 U Q H1:=λU Q=>by
  funext J H1
  exact propext (exists_congr λW=>and_congr Iff.rfl (forall_congr' λi=>forall_congr' λm=>forall_congr' λys=>forall_congr' λH=>imp_congr Iff.rfl (or_congr Iff.rfl (and_congr Iff.rfl (and_congr Iff.rfl (forall_congr' λz=>forall_congr' λH'=>imp_congr Iff.rfl
   ⟨λh=>⟨[some z],rfl,rfl,h⟩,λ⟨_,_,_,h⟩=>h⟩))))))
 intro pins s U H Q I h
 refine Dv (te:=te) (tt:=og) hc S' eN cH hi gO (λcl C aa ag fp=>Dt) (λcl C aa ag fp=>he cl C aa ag fp) hs pins s U H Q I ?_
 show wi U H λJ H1=>ku J (gh 0) og te 1 U Q H1
 rw [<-e]
 exact h
end L2
namespace L2
open PySem PySem.Spec PyProof.Rows
def v9 (z:Str):It:=⟨λi _=>i<z.cps.size,λi H v H'=>H'=H/\∃c,z.cps[i]?=some c/\v=.str ⟨#[c]⟩,λi _=>z.cps.size<=i⟩
def Dx {P:Program} {w:World} {K:PySem.W.Frag} {tg:Expr} (z:Str) (t:Tok) (it:Addr) (ty:String) (nZ:ty = "str_ascii_iterator" \/ ty = "str_iterator"):Turn P w K tg (v9 z) [it] it (λi h=>h.IsStrIter it ty z t i) where
 mem:=by simp
 obj:=λi h st b hb=>by
  have e:b=it:=by simpa using hb
  subst e
  obtain ⟨o,e,c,d⟩:=st
  exact ⟨o,e,λv z=>by rw [d] at z;cases z⟩
 keep:=λi h h' st k=>by
  obtain ⟨o,e,r⟩:=st
  exact ⟨o,k it (by simp) o e,r⟩
 item:=by
  intro X hP hw hK hc i pins s U H E I hf st hg
  subst hP hw hK
  obtain ⟨f0,f1,f2,f3,f4,f5⟩:=hf it (by simp)
  have W:Walks X.prog X.w X.A it [it] [it] z.cps.size (SignAt z) (λi h=>h.IsStrIter it ty z t i):=by
   rcases nZ with e|e
   ·rw [e];exact Walks.strAscii (I.ok.hd hc) it z t
   ·rw [e];exact Walks.strWide (I.ok.hd hc) it z t
  refine W.item i s _ _ hg st λv h' tk hv bA kk=>?_
  obtain ⟨c,u,MV,rfl⟩:=hv
  have I1:Inv X pins U H { s with heap:=h',toks:=tk }:=I.turned (λb o hb e=>kk b o (by simpa using hb) e) f0 f1 f3 f4 f5
  obtain ⟨o,e,cc,d⟩:=id bA
  exact ⟨_,rfl,r6 (s:={ s with heap:=h',toks:=tk }) e cc d (by rcases nZ with e|e<;>rw [e]<;>decide) ⟨.str ⟨#[c]⟩,H,I1,⟨u,rfl⟩,⟨rfl,c,MV,rfl⟩,bA,λb hb=>(hf b hb).1⟩⟩
 done:=by
  intro X hP hw hK hc i pins s U H E I hf st hg
  subst hP hw hK
  obtain ⟨f0,f1,f2,f3,f4,f5⟩:=hf it (by simp)
  have hn:z.cps[i]?=none:=by
   have MX:z.cps.size<=i:=hg
   simpa using MX
  rcases nZ with e|e
  ·rw [e] at st
   exact wpAny_pyNext_ascii_end (I.ok.hd hc) st hn λh' eb=>⟨rfl,I.turned (t':=s.toks) (λb o hb e=>eb b o hb e) f0 f1 f3 f4 f5⟩
  ·rw [e] at st
   exact wpAny_pyNext_wide_end (I.ok.hd hc) st hn λh' eb=>⟨rfl,I.turned (t':=s.toks) (λb o hb e=>eb b o hb e) f0 f1 f3 f4 f5⟩
 self:=λA i s Q E st h=>by
  rcases nZ with e|e
  ·rw [e] at st;exact wpAny_pyIter_striter_ascii st h
  ·rw [e] at st;exact wpAny_pyIter_striter_wide st h
section
variable {X:Cx}
def MY:kn X (λx lo hi H Q=>∃z,x=.str z/\z.length<=sizeLine/\Q (.str (Txt.slice z lo hi)) H):=by
 intro pins s U H x v vl vu lo hi sl Q I rx hs pl pu h
 obtain ⟨z,rfl,hz,q⟩:=h
 obtain ⟨t,rfl⟩:=rx
 refine ⟨"str", _,F.slot_str_getitem.lookup,typeIs_str _ _ _,?_⟩
 have fin:∀t' k,EP X pins U Q (.str (Txt.slice z lo hi) t') { s with toks:=k }:=λt' k=>⟨.str _,H,I.tok _,⟨_,rfl⟩,q⟩
 cases pl with
 | none =>
  cases pu with
  | none=>exact wpAny_getItem_str_slice (l:=none) (u:=none) (st:=none) hs rfl (post_val_or_str ⟨jr (Txt.slice_le z _ _) hz,fin⟩)
  | int j uj=>exact wpAny_getItem_str_slice (l:=none) (u:=some (j,uj)) (st:=none) hs rfl (post_val_or_str ⟨jr (Txt.slice_le z _ _) hz,fin⟩)
 | int i ui =>
  cases pu with
  | none=>exact wpAny_getItem_str_slice (l:=some (i,ui)) (u:=none) (st:=none) hs rfl (post_val_or_str ⟨jr (Txt.slice_le z _ _) hz,fin⟩)
  | int j uj=>exact wpAny_getItem_str_slice (l:=some (i,ui)) (u:=some (j,uj)) (st:=none) hs rfl (post_val_or_str ⟨jr (Txt.slice_le z _ _) hz,fin⟩)
theorem Dy:∀{bs:List Bool}{us:Af},Vals (bs.map V.bl) us->us=bs.map Value.bool
 | [],us,r=>by rw [List.map_nil] at r;cases r;rfl
 | b::bs,us,r=>by
  rw [yo] at r
  cases r with
  | cons r1 r2 =>
   have e:_=Value.bool b:=r1
   rw [yo,<-Dy r2,e]
theorem dJ:∀{ys:Ad}{us:Af},Vals (ys.map V.str) us->StrsAre us ys
 | [],us,r=>by rw [List.map_nil] at r;cases r;exact .nil
 | y::ys,us,r=>by
  rw [yo] at r
  cases r with
  | cons r1 r2 =>
   obtain ⟨t,e⟩:=r1
   subst e
   exact .cons y t (dJ r2)
def MZ (hc:X.calm=true):bZ X (.builtin "all") (λxs H Q=>∃(a:Addr) (bs:List Bool),xs=[.ref a]/\aZ X.K H a (bs.map V.bl)/\Q (.bl (bs.all id)) H):=by
 intro pins s U H xs us Q I r h
 obtain ⟨a,bs,rfl,hl,q⟩:=h
 obtain ⟨u,rfl,ru⟩:=lX r
 cases ru
 obtain ⟨its,rv,pl,hz⟩:=I.list hl
 have e:=Dy rv
 subst e
 refine call_all_walk (wpAny_pyIter_list pl.isList ?_)
 have hh:X.A.in1.handled=none:=I.ok.hd hc
 have bh:a<s.heap.objs.size:=by
  obtain ⟨o,e,_⟩:=pl.isList
  exact yF e
 have kx:a≠s.heap.objs.size:=jg bh
 refine ⟨s.heap.objs.size,_,_,_,_,_,λi=>(bs[i]?).getD true,rfl,Walks.list hh s.heap.objs.size a kx (bs.map Value.bool).toArray,⟨⟨_,jq _ rfl,rfl,rfl⟩,pl.isList.at λo e=>yC _ e⟩,?_,λh' tk kk=>?_⟩
 ·intro i v s' Q' E' hp hq
  have hp':(bs.map Value.bool)[i]?=some v:=by simpa using hp
  rw [yI] at hp'
  cases eb:bs[i]? with
  | none=>rw [eb] at hp';cases hp'
  | some b =>
   rw [eb] at hp'
   have:Value.bool b=v:=Option.some.inj hp'
   subst this
   refine kh ?_
   dsimp only at hq
   rw [eb] at hq
   exact hq
 ·have e1:(List.range (bs.map Value.bool).toArray.size).all (λi=>(bs[i]?).getD true)=bs.all id:=by
   rw [yV,yM]
   rw [Bool.eq_iff_iff,List.all_eq_true,List.all_eq_true]
   constructor
   ·intro hh b hb
    obtain ⟨i,hi,e⟩:=List.getElem_of_mem hb
    have:=hh i (ki.mpr hi)
    rw [yB hi,e] at this
    exact this
   ·intro hh i hi
    have oh:=ki.mp hi
    rw [yB oh]
    exact hh _ (wP oh)
  rw [e1]
  refine ⟨.bl (bs.all id),H,?_,rfl,q⟩
  exact I.kept (t':=tk) λb o e=>kk b o (λz=>by
   have z':b=s.heap.objs.size:=by simpa using z
   exact absurd (yF e) (by rw [z'];exact Nat.lt_irrefl _)) (yC _ e)
def M0:bf X (compareOp .In) (λx y H Q=>∃(c:Nat) (z:Str),x=.str ⟨#[c]⟩/\y=.str z/\Q (.bl (decide (c∈z.cps.toList))) H):=by
 intro pins s U H x y v u Q I rx ry h
 obtain ⟨c,z,rfl,rfl,q⟩:=h
 refine K_ pins s U H _ _ v u Q I rx ry ⟨_,_,rfl,rfl,?_⟩
 rw [StrLaws.found_one]
 exact q
end
section
variable {κ:Type} [DecidableEq κ]
def di (kvs:List (κ×V)) (k:κ):Option V:=(kvs.find? λkv=>decide (kv.1=k)).map (·.2)
def putK (kvs:List (κ×V)) (k:κ) (v:V):List (κ×V) :=
 if (kvs.any λkv=>decide (kv.1=k))=true then kvs.map (λkv=>if kv.1=k then (kv.1,v) else kv) else kvs++[(k,v)]
def sy {p:κ×V}{r:List (κ×V)}{k:κ}(e:p.1=k):di (p::r) k=some p.2:=by simp [di,List.find?_cons,e]
def sC {p:κ×V}{r:List (κ×V)}{k:κ}(e:¬p.1=k):di (p::r) k=di r k:=by simp [di,List.find?_cons,e]
theorem Dz (k:κ):∀kvs:List (κ×V),(kvs.any λkv=>decide (kv.1=k))=(di kvs k).isSome
 | []=>rfl
 | p::r=>by
  rw [List.any_cons]
  by_cases e:p.1=k
  ·simp only [sy e,jJ e,Bool.true_or,Option.isSome_some]
  ·rw [sC e,jC e,Bool.false_or];exact Dz k r
theorem v_ (kvs:List (κ×V)) (k:κ) (v:V):(putK kvs k v).length<=kvs.length+1:=by
 unfold putK
 split
 ·rw [yM];omega
 ·rw [iA,jt,List.length_nil];omega
def cE.isSome_eq {o:Option V}{u:Option Value}(r:cE o u):o.isSome=u.isSome:=by
 cases o with
 | none=>cases u with
  | none=>rfl
  | some _=>exact (show False from r).elim
 | some _=>cases u with
  | none=>exact (show False from r).elim
  | some _=>rfl
def KV.val {kvs:List (κ×V)}{vs:List (κ×Value)}(r:KV kvs vs) (k:κ):cE (di kvs k) (valueAt vs k):=by
 unfold KV at r
 induction r with
 | nil=>exact True.intro
 | @cons p q ps qs h t ih =>
  obtain ⟨h1,h2⟩:=h
  by_cases e:p.1=k
  ·have e':q.1=k:=h1.symm.trans e
   have b:valueAt (q::qs) k=some q.2:=by simp [valueAt,List.find?_cons,e']
   rw [sy e,b];exact h2
  ·have e':¬q.1=k:=λz=>e (h1.trans z)
   have b:valueAt (q::qs) k=valueAt qs k:=by simp [valueAt,List.find?_cons,e']
   rw [sC e,b];exact ih
def KV.any {kvs:List (κ×V)}{vs:List (κ×Value)}(r:KV kvs vs) (k:κ):(kvs.any λkv=>decide (kv.1=k))=vs.any λkv=>decide (kv.1=k):=by
 unfold KV at r
 induction r with
 | nil=>rfl
 | cons h t ih=>rw [List.any_cons,List.any_cons,ih,h.1]
def KV.repl {kvs:List (κ×V)}{vs:List (κ×Value)}(r:KV kvs vs) (k:κ) {y:V}{u:Value}(ry:RelV y u) :
  KV (kvs.map λkv=>if kv.1=k then (kv.1,y) else kv) (vs.map λkv=>if kv.1=k then (kv.1,u) else kv):=by
 unfold KV at r ⊢
 induction r with
 | nil=>exact .nil
 | @cons p q ps qs h t ih =>
  rw [yo,yo]
  refine .cons ?_ ih
  obtain ⟨h1,h2⟩:=h
  by_cases e:p.1=k
  ·rw [zF e,zF (h1.symm.trans e)];exact ⟨h1,ry⟩
  ·rw [zR e,zR (λz=>e (h1.trans z))];exact ⟨h1,h2⟩
def KV.put {kvs:List (κ×V)}{vs:List (κ×Value)}(r:KV kvs vs) (k:κ) {y:V}{u:Value}(ry:RelV y u):KV (putK kvs k y) (stored vs k u):=by
 unfold putK stored
 rw [r.any k]
 by_cases e:(vs.any λkv=>decide (kv.1=k))=true
 ·rw [zF e,zF e];exact r.repl k ry
 ·rw [zR e,zR e];exact Paired.snoc r ⟨rfl,ry⟩
def KV.keys {kvs:List (κ×V)}{vs:List (κ×Value)}(r:KV kvs vs):kvs.map (·.1)=vs.map (·.1):=by
 unfold KV at r
 induction r with
 | nil=>rfl
 | cons h t ih=>rw [yo,yo,ih,h.1]
def KV.length {kvs:List (κ×V)}{vs:List (κ×Value)}(r:KV kvs vs):kvs.length=vs.length:=Paired.length r
end
def oi {P:Program}{w:World}{k:Key}{u:Value}(r:RelV (kV k) u):(aY P w).is k u=true:=by
 cases k with
 | inl i=>obtain ⟨t,e⟩:=(show ∃t,u=Value.int i t from r);subst e;exact JK P w i t
 | inr x=>obtain ⟨t,e⟩:=(show ∃t,u=Value.str x t from r);subst e;exact JL P w x t
theorem w_ {P:Program}{w:World}:∀{ks:List Key}{us:Af},Vals (ks.map kV) us->ItemsAre (aY P w) ks us
 | [],_,r=>by rw [List.map_nil] at r;cases r;exact .nil
 | k::ks,_,r=>by
  rw [yo] at r
  cases r with
  | cons h t=>exact .cons (oi h) (w_ t)
abbrev KT (H:Hp):List (List Key×V)->List (List Key×Addr×Value)->Prop:=Paired λp q=>p.1=q.1/\H q.2.1=some (.tup (p.1.map kV))/\RelV p.2 q.2.2
def KT.val {H:Hp}{kvs:List (List Key×V)}{xs:List (List Key×Addr×Value)}(r:KT H kvs xs) (k:List Key):cE (di kvs k) ((atKey xs k).map (·.2)):=by
 induction r with
 | nil=>exact True.intro
 | @cons p q ps qs h t ih =>
  obtain ⟨h1,_,h2⟩:=h
  by_cases e:p.1=k
  ·have e':q.1=k:=h1.symm.trans e
   have b:atKey (q::qs) k=some q.2:=by simp [atKey,List.find?_cons,e']
   rw [sy e,b];exact h2
  ·have e':¬q.1=k:=λz=>e (h1.trans z)
   have b:atKey (q::qs) k=atKey qs k:=by simp [atKey,List.find?_cons,e']
   rw [sC e,b];exact ih
def KT.repl {H:Hp}{kvs:List (List Key×V)}{xs:List (List Key×Addr×Value)}(r:KT H kvs xs) (k:List Key) {y:V}{u:Value}(ry:RelV y u) :
  KT H (kvs.map λkv=>if kv.1=k then (kv.1,y) else kv) (xs.map (putAt k u)):=by
 induction r with
 | nil=>exact .nil
 | @cons p q ps qs h t ih =>
  rw [yo,yo]
  refine .cons ?_ ih
  obtain ⟨h1,h2,h3⟩:=h
  unfold putAt
  by_cases e:p.1=k
  ·rw [zF e,zF (h1.symm.trans e)];exact ⟨h1,h2,ry⟩
  ·rw [zR e,zR (λz=>e (h1.trans z))];exact ⟨h1,h2,h3⟩
def KT.put {H:Hp}{kvs:List (List Key×V)}{xs:List (List Key×Addr×Value)}(r:KT H kvs xs) (k:List Key) {b:Addr}{y:V}{u:Value}(hb:H b=some (.tup (k.map kV))) (ry:RelV y u) :
  KT H (putK kvs k y) (storedH xs k b u):=by
 have e:(kvs.any λkv=>decide (kv.1=k))=(atKey xs k).isSome:=by
  rw [Dz,(r.val k).isSome_eq,Option.isSome_map]
 unfold putK storedH
 rw [e]
 by_cases q:(atKey xs k).isSome=true
 ·rw [zF q,zF q];exact r.repl k ry
 ·rw [zR q,zR q];exact Paired.snoc r ⟨rfl,hb,ry⟩
def KT.keeps {H H':Hp}{kvs:List (List Key×V)}{xs:List (List Key×Addr×Value)}(r:KT H kvs xs) (ht:∀b ys,H b=some (.tup ys)->H' b=some (.tup ys)):KT H' kvs xs :=
 Paired.mapP r λ_ _ z=>⟨z.1,ht _ _ z.2.1,z.2.2⟩
section
variable {P:Program}{w:World}{H:Hp}{h:Heap}{a:Addr}
def DA {u:HO}(ok:cj P w H h) (e:Rd H a u):aQ P w H h a u:=e.ok ok
def ww {kvs:List (Key×V)}(ok:cj P w H h) (e:Rd H a (.dK kvs)):kvs.length<=sizeLine/\(a==sysModules)=false/\∃vs,KV kvs vs/\h.DictOf (aY P w) a vs :=
 show aQ P w H h a (.dK kvs) from DA ok e
def xb {kvs:List (Key×V)}(ok:cj P w H h) (e:H a=some (.dK kvs)):kvs.length<=sizeLine/\(a==sysModules)=false/\∃vs,KV kvs vs/\h.DictOf (aY P w) a vs:=ww ok (.inl e)
def p9 {ks:List Key}(ok:cj P w H h) (e:H a=some (.tup (ks.map kV))):(tupleKind (aY P w)).is h ks a:=by
 obtain ⟨_,its,r,o,h1,h2,n,h3⟩:=(show aQ P w H h a (.tup (ks.map kV)) from ok a _ e)
 exact ⟨o,its.toArray,n,h1,h2,h3,by simpa using w_ r⟩
def p_ {kvs:List (List Key×V)}(ok:cj P w H h) (e:Rd H a (.dT kvs)):kvs.length<=sizeLine/\(a==sysModules)=false /\
  ∃xs,KT H kvs xs/\h.DictOfH (tupleKind (aY P w)) a xs:=by
 obtain ⟨z,y,xs,r,o,es,ep,h1,h2,h3,h4,h5⟩:=(show aQ P w H h a (.dT kvs) from DA ok e)
 refine ⟨z,y,xs,r,o,es,ep,h1,h2,h3,h4,λx hx=>?_,h5⟩
 have all:∀{l:List (List Key×V)} {m:List (List Key×Addr×Value)},KT H l m->∀x∈m,(tupleKind (aY P w)).is h x.1 x.2.1:=by
  intro l m q
  induction q with
  | nil=>intro x hx;exact nomatch hx
  | @cons p q ps qs hq t ih =>
   intro x hx
   rcases yz.mp hx with e|hx
   ·subst e
    exact p9 ok (by rw [<-hq.1];exact hq.2.1)
   ·exact ih x hx
 exact all r x hx
def M3 {kvs:List (List Key×V)}(ok:cj P w H h) (e:H a=some (.dT kvs)):kvs.length<=sizeLine/\(a==sysModules)=false /\
  ∃xs,KT H kvs xs/\h.DictOfH (tupleKind (aY P w)) a xs:=p_ ok (.inl e)
end
def dU (H:Hp) (a:Addr) (y:V) (r:Option V):Prop :=
 (∃kvs k,Rd H a (.dK kvs)/\y=kV k/\r=di kvs k)\/∃kvs k b,Rd H a (.dT kvs)/\y=.ref b/\H b=some (.tup (k.map kV))/\r=di kvs k
def eQ (H:Hp) (a:Addr) (y v:V) (H':Hp):Prop :=
 (∃kvs k,H a=some (.dK kvs)/\y=kV k/\kvs.length<sizeLine/\H'=upd H a (.dK (putK kvs k v))) \/
 ∃kvs k b,H a=some (.dT kvs)/\y=.ref b/\H b=some (.tup (k.map kV))/\kvs.length<sizeLine/\H'=upd H a (.dT (putK kvs k v))
def dU.k {H:Hp}{a:Addr}{kvs:List (Key×V)}{k:Key}(e:H a=some (.dK kvs)):dU H a (kV k) (di kvs k):=.inl ⟨kvs,k,.inl e,rfl,rfl⟩
def dU.t {H:Hp}{a b:Addr}{kvs:List (List Key×V)}{k:List Key}(e:H a=some (.dT kvs)) (eb:H b=some (.tup (k.map kV))):dU H a (.ref b) (di kvs k):=.inr ⟨kvs,k,b,.inl e,rfl,eb,rfl⟩
def eQ.k {H:Hp}{a:Addr}{kvs:List (Key×V)}{k:Key}{v:V}(e:H a=some (.dK kvs)) (hl:kvs.length<sizeLine):eQ H a (kV k) v (upd H a (.dK (putK kvs k v))):=.inl ⟨kvs,k,e,rfl,hl,rfl⟩
def eQ.t {H:Hp}{a b:Addr}{kvs:List (List Key×V)}{k:List Key}{v:V}(e:H a=some (.dT kvs)) (eb:H b=some (.tup (k.map kV))) (hl:kvs.length<sizeLine) :
  eQ H a (.ref b) v (upd H a (.dT (putK kvs k v))):=.inr ⟨kvs,k,b,e,rfl,eb,hl,rfl⟩
section
variable {X:Cx}{pins:Ac}{U:St}{H:Hp}{s:Shared}{a:Addr}{y v:V}{u r:Value}{o:Option V}{A:Around}{E:Aa}
def Inv.big (I:Inv X pins U H s):sysModules<s.heap.objs.size:=by
 have h:mainGlobals<s.heap.objs.size:=(I.mod.glob.keeps I.bk).lt
 exact Nat.lt_trans (by decide) h
def M4 {Q:Aa}(hu:A.units+1<cLine) (I:Inv X pins U H s) (g:dU H a y (some v)) (ry:RelV y u) (h:∀w' s',Inv X pins U H s'->RelV v w'->Q w' s') :
  wpAny (model X.prog X.w) A (getItem (.ref a) u) Q E s:=by
 rcases g with ⟨kvs,k,e,ey,l⟩|⟨kvs,k,b,e,ey,eb,l⟩
 ·subst ey
  obtain ⟨z,hd,vs,rel,dd⟩:=ww I.hok e
  obtain ⟨w',hw,dG⟩:=cE.some_of (v:=v) (o:=valueAt vs k) (by rw [l];exact rel.val k)
  exact wpAny_getItem_of (oi ry) dd.mapOf hw (h w' _ (I.tok _) dG)
 ·subst ey
  cases (show u=Value.ref b from ry)
  obtain ⟨z,hd,xs,rel,dd⟩:=p_ I.hok e
  obtain ⟨w',hw,dG⟩:=cE.some_of (v:=v) (o:=(atKey xs k).map (·.2)) (by rw [l];exact rel.val k)
  obtain ⟨p,hp,ky⟩:=Option.map_eq_some_iff.mp hw
  refine wpAny_getItem_heap (tupleKind_room_in1 hu) (p9 I.hok eb) dd hp ?_
  rw [ky]
  exact h w' _ (I.tok _) dG
def M5 {Q:Aa}(hu:A.units+1<cLine) (I:Inv X pins U H s) (g:dU H a y o) (ry:RelV y u) (h:∀s',Inv X pins U H s'->Q (.bool o.isSome) s') :
  wpAny (model X.prog X.w) A (compareOp .In u (.ref a)) Q E s:=by
 rcases g with ⟨kvs,k,e,ey,l⟩|⟨kvs,k,b,e,ey,eb,l⟩
 ·subst ey
  obtain ⟨z,hd,vs,rel,dd⟩:=ww I.hok e
  refine wpAny_in_of (oi ry) hd dd.mapOf ?_
  rw [<-(rel.val k).isSome_eq,<-l]
  exact h _ (I.tok _)
 ·subst ey
  cases (show u=Value.ref b from ry)
  obtain ⟨z,hd,xs,rel,dd⟩:=p_ I.hok e
  refine wpAny_in_heap (tupleKind_room_in1 hu) (p9 I.hok eb) hd dd ?_
  have q:=(rel.val k).isSome_eq
  rw [Option.isSome_map] at q
  rw [<-q,<-l]
  exact h _ (I.tok _)
def M6 {Q:Aa}(hu:A.units+1<cLine) (I:Inv X pins U H s) (g:dU H a y o) (ry:RelV y u) (h:∀s',Inv X pins U H s'->Q (.bool (!o.isSome)) s') :
  wpAny (model X.prog X.w) A (compareOp .NotIn u (.ref a)) Q E s:=by
 rcases g with ⟨kvs,k,e,ey,l⟩|⟨kvs,k,b,e,ey,eb,l⟩
 ·subst ey
  obtain ⟨z,hd,vs,rel,dd⟩:=ww I.hok e
  refine wpAny_notIn_of (oi ry) hd dd.mapOf ?_
  rw [<-(rel.val k).isSome_eq,<-l]
  exact h _ (I.tok _)
 ·subst ey
  cases (show u=Value.ref b from ry)
  obtain ⟨z,hd,xs,rel,dd⟩:=p_ I.hok e
  refine wpAny_notIn_heap (tupleKind_room_in1 hu) (p9 I.hok eb) hd dd ?_
  have q:=(rel.val k).isSome_eq
  rw [Option.isSome_map] at q
  rw [<-q,<-l]
  exact h _ (I.tok _)
def sD {h':Heap}{t':Nat}{ob:HO}(I:Inv X pins U H s) (mu:pz (H a)) (hs:Heap.SameBut a s.heap h') (he:∃q,h'.get? a=some q) (new:aQ X.prog X.w (upd H a ob) h' a ob) :
  Inv X pins U (upd H a ob) { s with heap:=h',toks:=t' } :=
 I.write (x:=a) (e:=a) mu (.inl rfl) (λb q hb z=>(hs.2 b hb).trans z) he new
def DB {P:Program}{w:World}{H':Hp}{h':Heap}{kvs:List (Key×V)}{vs:List (Key×Value)}(z:kvs.length<=sizeLine) (hd:(a==sysModules)=false) (rel:KV kvs vs) (dd:h'.DictOf (aY P w) a vs) :
  aQ P w H' h' a (.dK kvs):=⟨z,hd,vs,rel,dd⟩
theorem DC {H':Hp}{Q:Unit->Shared->Prop}(hu:A.units+1<cLine) (I:Inv X pins U H s) (g:eQ H a y v H') (ry:RelV y u) (rv:RelV v r) (h:∀s',Inv X pins U H' s'->Q () s') :
  wpAny (model X.prog X.w) A (setItem (.ref a) u r) Q E s:=by
 rcases g with ⟨kvs,k,e,ey,l,eH⟩|⟨kvs,k,b,e,ey,eb,l,eH⟩
 ·subst ey eH
  obtain ⟨z,hd,vs,rel,dd⟩:=xb I.hok e
  have hz:vs.length<=sizeLine:=by rw [<-rel.length];exact z
  have hl:(putK kvs k v).length<=sizeLine:=by have:=v_ kvs k v;omega
  refine wpAny_setItem_pairs (hsz:=hz) (oi ry) dd λh' iN hs=>h _ ?_
  have he:∃q,h'.get? a=some q:=let ⟨q,_,_,hq,_⟩:=iN;⟨q,hq⟩
  exact sD I (by rw [e];exact True.intro) hs he (DB hl hd (rel.put k rv) iN)
 ·subst ey eH
  cases (show u=Value.ref b from ry)
  obtain ⟨z,hd,xs,rel,dd⟩:=M3 I.hok e
  have hz:xs.length<=sizeLine:=by rw [<-Paired.length rel];exact z
  have hl:(putK kvs k v).length<=sizeLine:=by have:=v_ kvs k v;omega
  refine wpAny_setItem_heap (hsz:=hz) (tupleKind_room_in1 hu) (p9 I.hok eb) dd λh' iN hs=>h _ ?_
  obtain ⟨q,es,ep,hq,h2,h3,h4,_,h5⟩:=iN
  refine sD I (by rw [e];exact True.intro) hs ⟨q,hq⟩ ⟨hl,hd,_,(rel.put k eb rv).keeps λc ys ec=>?_,q,es,ep,hq,h2,h3,h4,h5⟩
  rw [yE (JM ec e (λz=>nomatch z))]
  exact ec
end
section
variable {X:Cx}{pins:Ac}{U:St}{H:Hp}{s:Shared}{a:Addr}{kvs:List (Key×V)}{k:Key}{u:Value}{A:Around}{E:Aa}
theorem M8 {Q:Aa} (I:Inv X pins U H s) (e:Rd H a (.dK kvs)) (h:∀t s',Inv X pins U H s'->Q (.int kvs.length t) s'):wpAny (model X.prog X.w) A (call (.builtin "len") [.ref a]) Q E s:=by
 obtain ⟨z,hd,vs,rel,dd⟩:=ww I.hok e
 refine call_len_dict hd dd (by rw [<-rel.length];rw [sizeLine_eq] at z;omega) ?_
 rw [<-rel.length]
 exact h _ _ (I.tok _)
end
def M9 {X:Cx} {pins:Ac} {U:St} {H:Hp} {s:Shared} {a:Addr} {y:V} {o:Option V} (I:Inv X pins U H s) (g:dU H a y o):s.TypeIs (.ref a) "dict" := by
 rcases g with ⟨kvs,k,e,_,_⟩|⟨kvs,k,b,e,_,_,_⟩
 ·obtain ⟨_,_,vs,_,dd⟩:=ww I.hok e
  exact dd.typeIs
 ·obtain ⟨_,_,xs,_,dd⟩:=p_ I.hok e
  exact dd.typeIs
def M_ (td ty tv:TE):TS:=λD U H=>tv U H λv H1=>td U H1 λx H2=>ty U H2 λy H3=>∃a H4,x=.ref a/\eQ H3 a y v H4/\D.nx U H4
section
variable {X:Cx}{o i e value:Expr}{pos pos' CM:Pos}{td ty tv:TE}
def Na (hu:X.A.units+1<cLine) (ho:PE X o td) (hi:PE X i ty) (hv:PE X value tv) (hs:swapsWith value (some (.Subscript o i pos')) pos.line X.env=pure false) :
  PS X (.Assign [.Subscript o i pos'] value pos) (M_ td ty tv):=by
 intro pins s U H D I h
 refine wpAny_Assign_Subscript (aO (hv pins s U H _ I h) λr s1 ⟨v,H1,I1,rv,q1⟩=>aO (ho pins s1 U H1 _ I1 q1) λu s2 ⟨x,H2,I2,rx,q2⟩=>aO (hi pins s2 U H2 _ I2 q2) λiv s3 ⟨y,H3,I3,ry,a,H4,ex,g,q3⟩=>?_) hs
 subst ex
 obtain rfl:u=Value.ref a:=rx
 exact DC hu I3 g ry rv λs4 I4=>⟨U,H4,I4,q3⟩
end
def DD {P:Program} {w:World} {H:Hp} (h:Heap) (hb:sysModules<h.objs.size):aQ P w H (h.push { cls:=.type "dict", data:=.dict #[] }) h.objs.size (.dK []) :=
 ⟨js _,beq_eq_false_iff_ne.mpr (ja (jg hb)),[],.nil,Heap.DictOf.new h⟩
def Nb:TE:=λ_ H Q=>∀p,H p=none->Q (.ref p) (upd H p (.dK []))
section
variable {X:Cx}{pos:Pos}
def Nc:PE X (.Dict [] [] pos) Nb:=λpins s U H Q I h =>
 wpAny_Dict_empty ⟨.ref s.heap.objs.size,_,I.laid (a:=s.heap.objs.size) (o:=.dK []) (t':=s.toks) (λ_ _ q=>yC _ q) (yk _) (DD s.heap I.big),rfl,h _ (I.hok.fresh (yk _))⟩
end
def sE:List (TE×TE)->St->Hp->(List (V×V)->Hp->Prop)->Prop
 | [],_,H,Q=>Q [] H
 | (tk,tv)::r,U,H,Q=>tk U H λx H1=>tv U H1 λy H2=>sE r U H2 λps H3=>Q ((x,y)::ps) H3
abbrev VV:List (V×V)->List (Value×Value)->Prop:=Paired λp q=>RelV p.1 q.1/\RelV p.2 q.2
def qc (X:Cx) (pos:Pos) (keys:List (Option Expr)) (values:List Expr) (trs:List (TE×TE)):Prop :=
 ∀(pins:Ac) (s:Shared) (U:St) (H:Hp) (Q:List (V×V)->Hp->Prop),Inv X pins U H s->sE trs U H Q ->
  wpAny (model X.prog X.w) X.A (evalPairs (pairTrees keys values X.env pos)) (λvs s'=>∃ps H',Inv X pins U H' s'/\VV ps vs/\Q ps H') X.xe s
def Nd {X:Cx}{pos:Pos}:qc X pos [] [] []:=λpins s U H Q I h=>pairTrees_nil_walk ⟨[],H,I,.nil,h⟩
def Nf {X:Cx}{pos:Pos}{k v:Expr}{ks:List (Option Expr)}{vs:List Expr}{tk tv:TE}{trs:List (TE×TE)}(hk:PE X k tk) (hv:PE X v tv) (hr:qc X pos ks vs trs) :
  qc X pos (some k::ks) (v::vs) ((tk,tv)::trs):=λpins s U H Q I h =>
 pairTrees_cons_walk (aO (hk pins s U H _ I h) λu s1 ⟨x,H1,I1,rx,q1⟩=>aO (hv pins s1 U H1 _ I1 q1) λw2 s2 ⟨y,H2,I2,ry,q2⟩ =>
  aO (hr pins s2 U H2 _ I2 q2) λws s3 ⟨ps,H3,I3,rel,q3⟩=>⟨(x,y)::ps,H3,I3,.cons ⟨rx,ry⟩ rel,q3⟩)
def eh (kvs more:List (Key×V)):List (Key×V):=more.foldl (λacc kv=>putK acc kv.1 kv.2) kvs
def KV.merge:∀{more:List (Key×V)}{rs:List (Key×Value)}{kvs:List (Key×V)}{vs:List (Key×Value)},KV more rs->KV kvs vs->KV (eh kvs more) (merged vs rs):=by
 intro more rs kvs vs r
 unfold KV at r
 induction r generalizing kvs vs with
 | nil=>intro q;exact q
 | @cons p q ps qs h t ih =>
  intro r0
  have e:KV (putK kvs p.1 p.2) (stored vs q.1 q.2):=by
   have:=r0.put p.1 h.2
   rw [<-h.1];exact this
  exact ih e
theorem DE:∀(more kvs:List (Key×V)),(eh kvs more).length<=kvs.length+more.length
 | [],kvs=>by show kvs.length<=kvs.length+0;omega
 | p::r,kvs=>by
  have h1:=DE r (putK kvs p.1 p.2)
  have h2:=v_ kvs p.1 p.2
  show (eh (putK kvs p.1 p.2) r).length<=_
  rw [jt];omega
theorem DF {P:Program}{w:World}:∀{kvs:List (Key×V)}{ws:List (Value×Value)},VV (kvs.map λkv=>(kV kv.1,kv.2)) ws->∃rs,Carries (aY P w) ws rs/\KV kvs rs
 | [],_,r=>by rw [List.map_nil] at r;cases r;exact ⟨[],True.intro,.nil⟩
 | p::kvs,_,r=>by
  rw [yo] at r
  cases r with
  | @cons a b as bs h t =>
   obtain ⟨rs,c,q⟩:=DF (P:=P) (w:=w) t
   obtain ⟨b1,b2⟩:=b
   exact ⟨(p.1,b2)::rs,⟨oi h.1,rfl,c⟩,.cons ⟨rfl,h.2⟩ q⟩
def Ng (trs:List (TE×TE)):TE:=λU H Q=>∀p,H p=none->sE trs U (upd H p (.dK [])) λps H2=>H2 p=some (.dK [])/\∃kvs:List (Key×V),ps=kvs.map (λkv=>(kV kv.1,kv.2))/\kvs.length<=15/\Q (.ref p) (upd H2 p (.dK (eh [] kvs)))
theorem Nh {X:Cx}{pos:Pos}{keys:List (Option Expr)}{values:List Expr}{trs:List (TE×TE)}(h:qc X pos keys values trs) (fE:keys.all (·.isSome)=true) (hl:keys.length=values.length) (h0:keys≠[])
  (xc:keys.length<=15):PE X (.Dict keys values pos) (Ng trs):=by
 intro pins s U H Q I q
 have hn:=I.hok.fresh (yk s.heap.objs.size)
 have I1:=I.laid (a:=s.heap.objs.size) (o:=.dK []) (h':=s.heap.push { cls:=.type "dict", data:=.dict #[] }) (t':=s.toks) (λ_ _ q=>yC _ q) (yk _) (DD s.heap I.big)
 refine wpAny_Dict_walk (knd:=aY X.prog X.w) fE hl h0 xc (aO (h pins _ U _ _ I1 (q _ hn)) λws s2 ⟨ps,H2,I2,rel,e,kvs,ep,lk,q2⟩=>?_)
 subst ep
 obtain ⟨rs,c,rk⟩:=DF (P:=X.prog) (w:=X.w) rel
 obtain ⟨z,hd,kA,r0,dd⟩:=xb I2.hok e
 cases r0
 refine ⟨rs,c,dd,λh' iN hs=>⟨.ref s.heap.objs.size,_,?_,rfl,q2⟩⟩
 have hz:(eh [] kvs).length<=sizeLine:=by
  have h1:=DE kvs []
  rw [List.length_nil] at h1
  rw [sizeLine_eq];omega
 have he:∃q,h'.get? s.heap.objs.size=some q:=let ⟨q,_,_,hq,_⟩:=iN;⟨q,hq⟩
 exact sD I2 (by rw [e];exact True.intro) hs he (DB hz hd (rk.merge .nil) iN)
structure M1 (X:Cx) (o:Expr) (m:Str) (apos:Pos) (e:Expr) (a6:Pos):Prop where
 base:attributeBase o m X.env (eval o X.env)=eval o X.env
 few:((backTo a6 (starEach [e] X.env)).all (λx=>!x.1)&&(backToKw a6 (keywordEach [] X.env)).all (λx=>x.1.isSome)
  && decide (([e]:List Expr).length+([]:List Keyword).length+(if ([]:List Keyword).isEmpty then 0 else 1)<30))=true
 line:(apos.endLine==a6.line)=true
 trees:backTo a6 (starEach [e] X.env)=[(false,eval e X.env)]
structure M2 (X:Cx) (o:Expr) (m:Str) (apos:Pos) (e f:Expr) (a6:Pos):Prop where
 base:attributeBase o m X.env (eval o X.env)=eval o X.env
 few:((backTo a6 (starEach [e,f] X.env)).all (λx=>!x.1)&&(backToKw a6 (keywordEach [] X.env)).all (λx=>x.1.isSome)
  && decide (([e,f]:List Expr).length+([]:List Keyword).length+(if ([]:List Keyword).isEmpty then 0 else 1)<30))=true
 line:(apos.endLine==a6.line)=true
 trees:backTo a6 (starEach [e,f] X.env)=[(false,eval e X.env),(false,eval f X.env)]
section
variable {X:Cx}{pins:Ac}{U:St}{H:Hp}{s:Shared}{a:Addr}{y d:V}{u r:Value}{o:Option V}{A:Around}{E:Aa}
end
section
variable {X:Cx}{o e f:Expr}{apos a6:Pos}{td ty tx:TE}
end
section
variable {X:Cx}{pins:Ac}{U:St}{H:Hp}{s:Shared}{a:Addr}{kvs:List (Key×V)}{A:Around}{E:Aa}
end
section
variable {X:Cx}{pins:Ac}{U:St}{H:Hp}{s:Shared}{a:Addr}{y:V}{u:Value}{A:Around}{E:Aa}
end
def XO (h:Heap) (a:Addr) (C:Value) (d:Option Addr) (head:Value):Prop :=
 ∃oe vs,h.get? a=some oe/\oe.cls=C/\oe.dict=d/\oe.data=.fields vs/\vs.size=6/\vs[1]?=some head
def TB (h:Heap) (T:Addr) (fl:Value):Prop:=∃oT ts,h.get? T=some oT/\oT.data=.fields ts/\ts[3]?=some fl
def Ni (o:Obj) (f):(o.mapFields f).dict=o.dict:=by
 obtain ⟨c,d,dt,sl⟩:=o
 cases dt<;>rfl
def XO.keeps {h h':Heap}{a:Addr}{C:Value}{d:Option Addr}{head:Value}(x:XO h a C d head) (k:∀o,h.get? a=some o->h'.get? a=some o):XO h' a C d head:=by
 obtain ⟨oe,vs,e,r⟩:=x
 exact ⟨oe,vs,k _ e,r⟩
def TB.keeps {h h':Heap}{T:Addr}{fl:Value}(x:TB h T fl) (k:∀o,h.get? T=some o->h'.get? T=some o):TB h' T fl:=by
 obtain ⟨oT,ts,e,r⟩:=x
 exact ⟨oT,ts,k _ e,r⟩
theorem XO.set1 {h:Heap}{a:Addr}{C:Value}{d:Option Addr}{head:Value}(x:XO h a C d head) (u:Value):XO (h.update a (Obj.mapFields (·.setIfInBounds 1 u))) a C d u:=by
 obtain ⟨oe,vs,e,hc,oj,hd,hz,h1⟩:=x
 have gz:=Obj.data_mapFields hd (·.setIfInBounds 1 u)
 refine ⟨_,_,Heap.get?_update_self _ e (Obj.isFreed_of_fields gz),(Obj.cls_mapFields _ _).trans hc,(Ni _ _).trans oj,gz,?_,?_⟩
 ·rw [Array.size_setIfInBounds];exact hz
 ·have:1<vs.size:=by omega
  simp [this]
def TB.set3 {h:Heap}{T:Addr}{fl:Value}(x:TB h T fl) (u:Value):TB (h.update T (Obj.mapFields (·.setIfInBounds 3 u))) T u:=by
 obtain ⟨oT,ts,e,hd,h3⟩:=x
 have gz:=Obj.data_mapFields hd (·.setIfInBounds 3 u)
 refine ⟨_,_,Heap.get?_update_self _ e (Obj.isFreed_of_fields gz),gz,?_⟩
 have:3<ts.size:=(Array.getElem?_eq_some_iff.mp h3).1
 simp [this]
section
variable {M:Model}{A:Around}{E:Aa}{s:Shared}{base:Heap}{env:Env}{outer:List Env}{L a:Addr}{C:Value}{d:Option Addr}{head:Value}{Q:Unit->Shared->Prop}
theorem DG {b2:Bool}(fF:A.frames=some (env::outer)) (hl:s.heap.FunFrames base (env::outer)) (hf:env.frame=some L) (x:XO s.heap a C d head)
  (h:∀h' T,s.heap.objs.size<=T->XO h' a C d (.ref T)->TB h' T (rawInt L)->(∀b o,b≠a->b∉dc (env::outer)->s.heap.get? b=some o->h'.get? b=some o) ->
   (∀b o,b≠a->b∈dc (env::outer)->s.heap.get? b=some o->∃sl,h'.get? b=some { o with slots:=sl })->Q () { s with heap:=h' }) :
  wpAny M A (do let fr <-frameOf env;let pl <-entryPlaceOf L b2;let tb <-EntryCells.newEntry head fr .none (rawInt L) .none pl;setField (.ref a) 1 tb) Q E s:=by
 obtain ⟨oe,vs,e,hc,oj,hd,hz,h1⟩:=id x
 have aN:a∉dc (env::outer):=λhm=>by
  obtain ⟨_,o,ho,nf⟩:=hl.mem hm
  rw [e] at ho
  cases ho
  exact nf vs hd
 refine zA (wpAny_frameOf_fun fF hl hf λg1 sF=>zA (wpAny_entryPlaceOf λpl DH=>?_))
 unfold EntryCells.newEntry newFields
 refine zA (kg ?_ (DH.sizeOk5 _ _ _ _ _))
 have x1:XO g1 a C d head:=⟨oe,vs,(sF.2.1 a aN).trans e,hc,oj,hd,hz,h1⟩
 generalize hob:({ cls:=.type "traceback", dict:=none,data:=.fields ([head,.ref L,.none,rawInt L,.none]++(if pl.isEmpty then List.replicate 6 Value.none else pl)).toArray }:Obj)=ob
 have x2:XO (g1.push ob) a C d head:=x1.keeps λo q=>yC _ q
 obtain ⟨Wj,fS,e2,_,_,hd2,Wk,_⟩:=id x2
 refine wpAny_setField e2 hd2 (by omega) ?_
 have aT:g1.objs.size≠a:=λz=>by
  obtain ⟨_,_,q,_⟩:=x1
  have:=yF q
  rw [<-z] at this
  exact Nat.lt_irrefl _ this
 have DI:s.heap.objs.size<=g1.objs.size:=Nat.le_of_eq sF.1.symm
 refine h _ g1.objs.size DI (x2.set1 _) ?_ (λb o nb nf q=>?_) (λb o nb nf q=>?_)
 ·have t0:TB (g1.push ob) g1.objs.size (rawInt L):=by
   refine ⟨ob,_,jq _ (by rw [<-hob];rfl),by rw [<-hob],?_⟩
   rcases DH with rfl|⟨_,_,_,_,_,_,_,rfl⟩<;>simp
  exact t0.keeps λo q=>(iw _ _ (ja aT)).trans q
 ·exact (iw _ _ (ja nb)).trans (yC _ ((sF.2.1 b nf).trans q))
 ·obtain ⟨sl,z⟩:=sF.2.2 b o q
  exact ⟨sl,(iw _ _ (ja nb)).trans (yC _ z)⟩
def Nj (fF:A.frames=some (env::outer)) (hl:s.heap.FunFrames base (env::outer)) (hf:env.frame=some L) (x:XO s.heap a C d head)
  (ht:head=.none\/∃T0,head=.ref T0/\T0≠a/\TB s.heap T0 .none)
  (h:∀h' T,s.heap.objs.size<=T->XO h' a C d (.ref T)->TB h' T (rawInt L)->(∀b o,b≠a->.ref b≠head->b∉dc (env::outer)->s.heap.get? b=some o->h'.get? b=some o) ->
   (∀b o,b∈dc (env::outer)->s.heap.get? b=some o->∃sl,h'.get? b=some { o with slots:=sl })->Q () { s with heap:=h' }) :
  wpAny M A (noteFrame (.ref a) env) Q E s:=by
 obtain ⟨oe,vs,e,hc,oj,hd,hz,h1⟩:=id x
 have aN:a∉dc (env::outer):=λhm=>by
  obtain ⟨_,o,ho,nf⟩:=hl.mem hm
  rw [e] at ho
  cases ho
  exact nf vs hd
 unfold noteFrame
 simp only [hf]
 refine zA (jF e hd h1 ?_)
 rcases ht with rfl|⟨T0,rfl,nT,t0⟩
 ·rw [zR (by decide)]
  exact DG fF hl hf x λh' T k1 k2 k3 k4 k5=>h h' T k1 k2 k3 (λb o nb _ nf q=>k4 b o nb nf q) λb o hb q=>k5 b o (λz=>aN (z▸hb)) hb q
 ·obtain ⟨oT,ts,eT,hdT,h3⟩:=id t0
  have TN:T0∉dc (env::outer):=λhm=>by
   obtain ⟨_,o,ho,nf⟩:=hl.mem hm
   rw [eT] at ho
   cases ho
   exact nf ts hdT
  rw [zF (show (Value.ref T0 != Value.none)=true from by simp)]
  refine zA (jF eT hdT h3 ?_)
  rw [zR (show ¬((Value.none==rawInt L)=true) from by simp [rawInt])]
  refine zA (wpAny_setField eT hdT (Array.getElem?_eq_some_iff.mp h3).1 ?_)
  have oth:∀b,b≠T0->(s.heap.update T0 (Obj.mapFields (·.setIfInBounds 3 Value.none))).get? b=s.heap.get? b:=λb hb=>iw _ _ (ja hb)
  refine DG (s:={ s with heap:=s.heap.update T0 (Obj.mapFields (·.setIfInBounds 3 Value.none)) }) fF (hl.of_keeps λb o hb nf=>⟨o,(oth b λq=>?_).trans hb,rfl⟩) hf (x.keeps λo q=>(oth a (ja nT)).trans q) λh' T k1 k2 k3 k4 k5 =>
   h h' T (by simpa using k1) k2 k3 (λb o nb nh nf q=>k4 b o nb nf ((oth b λz=>nh (by rw [z])).trans q)) λb o hb q=>k5 b o (λz=>aN (z▸hb)) hb ((oth b λz=>TN (z▸hb)).trans q)
  rw [q,eT] at hb
  cases hb
  exact nf ts hdT
def Nk {T:Addr}{fl:Value}(x:XO s.heap a C d (.ref T)) (t:TB s.heap T fl) (ne:T≠a)
  (h:∀h',XO h' a C d (.ref T)->TB h' T .none->(∀b o,b≠T->s.heap.get? b=some o->h'.get? b=some o)->h'.objs.size=s.heap.objs.size->Q () { s with heap:=h' }):wpAny M A (setFlight (.ref a) none) Q E s:=by
 obtain ⟨oe,vs,e,_,_,hd,_,h1⟩:=id x
 obtain ⟨oT,ts,eT,hdT,h3⟩:=id t
 unfold setFlight
 refine zA (jF e hd h1 ?_)
 rw [zF (show (Value.ref T != Value.none)=true from by simp)]
 refine wpAny_setField eT hdT (Array.getElem?_eq_some_iff.mp h3).1 ?_
 exact h _ (x.keeps λo q=>(iw _ _ ne).trans q) (t.set3 _) (λb o nb q=>(iw _ _ (ja nb)).trans q) (by simp)
end
def bE (X:Cx) (pins:Ac) (H:Hp) (b:Addr):Prop :=
 H b=none/\X.s₀.heap.objs.size<=b/\b≠X.env.locals/\(∀x c,X.env.cells.lookup x=some c->c≠b)/\∀p∈X.pn++pins,p.1≠b
def bE.new {X:Cx}{pins:Ac}{U:St}{H H':Hp}{s:Shared}{b:Addr}(I:Inv X pins U H s) (hb:s.heap.objs.size<=b) (hn:H' b=none):bE X pins H' b:=by
 obtain ⟨f0,f1,f2,f3,f4,f5⟩:=I.fpOk (H':=H') hb hn
 exact ⟨hn,jr I.sz hb,f1,f4,f5⟩
def sG (X:Cx) (pins:Ac) (H:Hp) (h:Heap) (a C:Addr) (d:Option Addr):Prop :=
 ∃head,XO h a (.ref C) d head/\bE X pins H a/\(head=.none\/∃T,head=.ref T/\T≠a/\TB h T .none/\bE X pins H T)
def Throws (X:Cx) (E:XK):Prop:=∀(pins:Ac) (U:St) (H:Hp) (s:Shared) (a C:Addr) (d:Option Addr),Inv X pins U H s->sG X pins H s.heap a C d->E (.ref C) d H->X.xe (.ref a) s
def cZ (P:Program) (w:World):fC:=λouter H s E e s'=>∃(a C T:Addr) (d:Option Addr) (H':Hp),e=.ref a/\s'.os=s.os/\AllBare s'.gens/\Un (dc outer) [] H H' s.heap s'.heap/\cj P w H' s'.heap /\
 XO s'.heap a (.ref C) d (.ref T)/\T≠a/\TB s'.heap T .none/\(s.heap.objs.size<=a/\H' a=none)/\(s.heap.objs.size<=T/\H' T=none)/\E (.ref C) d H'
def Nl {X:Cx}{E:XK}(t:Throws X E):Passes (cZ X.prog X.w) X E:=by
 rintro pins U H s e s' I ⟨a,C,T,d,H',rfl,os,bare,un,hok,x,ne,tb,⟨a1,a2⟩,⟨t1,t2⟩,q⟩
 have I':Inv X pins U H' s':=I.call' (ch:=[]) os un hok bare λb z=>absurd z (by simp)
 exact t pins U H' s' a C d I' ⟨_,x,bE.new I a1 a2,.inr ⟨T,rfl,ne,tb,bE.new I t1 t2⟩⟩ q
def gP (a:Addr):Value->Ae
 | .ref T0=>[a,T0]
 | _=>[a]
def DJ (a:Addr) (v:Value):a∈gP a v:=by cases v<;>simp [gP]
def DK (a T0:Addr):T0∈gP a (.ref T0):=by simp [gP]
section
variable {X:Cx}{pins:Ac}{U:St}{H:Hp}{s:Shared}{a C:Addr}{d:Option Addr}{A:Around}{E:Aa}{Q:Unit->Shared->Prop}
def Nn (I:Inv X pins U H s) (fF:A.frames=some X.stack) (cG:X.stack=X.env::X.outer) (hf:X.env.frame=some X.env.locals) (F:sG X pins H s.heap a C d)
  (h:∀s' T,Inv X pins U H s'->XO s'.heap a (.ref C) d (.ref T)->T≠a->TB s'.heap T (rawInt X.env.locals)->bE X pins H a->bE X pins H T->Q () s'):wpAny (model X.prog X.w) A (noteFrame (.ref a) X.env) Q E s:=by
 obtain ⟨head,x,oa,ht⟩:=F
 have hl:s.heap.FunFrames X.base (X.env::X.outer):=cG▸I.stack
 have DL:A.frames=some (X.env::X.outer):=fF.trans (congrArg some cG)
 have DM:dc (X.env::X.outer)=X.env.locals::X.fs:=by
  unfold dc
  rw [List.filterMap_cons,hf]
  rfl
 have kj:∀b∈X.env.locals::X.fs,H b=none:=λb hb=>I.stkFree b (by rw [cG,DM];exact hb)
 have xf:∀b u,H b=some u->Value.ref b≠head:=λb u e z=>by
  rcases ht with rfl|⟨T0,rfl,_,_,r⟩
  ·cases z
  ·cases z
   rw [r.1] at e
   cases e
 refine Nj DL hl hf x (ht.imp id λ⟨T0,e1,e2,e3,_⟩=>⟨T0,e1,e2,e3⟩) λh' T k1 k2 k3 k4 k5=>?_
 rw [DM] at k4 k5
 have oT:bE X pins H T:=bE.new I k1 (I.hok.fresh k1)
 have neT:T≠a:=λz=>by
  obtain ⟨_,_,e,_⟩:=x
  have:=yF e
  rw [<-z] at this
  exact Nat.lt_irrefl _ (jW this k1)
 refine h { s with heap:=h' } T ?_ k2 neT k3 oa oT
 refine I.step (g':=s.gens) (t':=s.toks) (d':=s.drawn) (ch:=gP a head) (λb hb=>?_) (λb o n1 n2 n3 e n=>k4 b o (λz=>n3 ?_) (λz=>n3 ?_) (λz=>(yz.mp z).elim n1 n2) e)
  (λb o n1 n2 n3 e n=>k5 b o (yX _ n2) e) (λ_ _ _ _ n=>n) (λb o n3 e=>?_) (λ_ _ e=>e) (λ_ _ _ e=>e) (λb ps e=>⟨#[],by rw [e];simp⟩) (λm hm=>?_) (λb u e=>?_) I.bare
 ·have own:bE X pins H b:=by
   rcases ht with rfl|⟨T0,rfl,_,_,r⟩
   ·have z:b=a:=by simpa [gP] using hb
    rw [z];exact oa
   ·have z:b=a\/b=T0:=by simpa [gP] using hb
    rcases z with z|z
    ·rw [z];exact oa
    ·rw [z];exact r
  exact ⟨.inr own.2.1,own.2.2.1,own.2.2.2.1,own.2.2.2.2⟩
 ·rw [z]
  exact DJ a head
 ·rw [<-z]
  exact DK a b
 ·by_cases hb:b∈X.env.locals::X.fs
  ·obtain ⟨sl,z⟩:=k5 b o hb e
   exact ⟨_,z⟩
  ·exact ⟨o,k4 b o (λz=>n3 (by rw [z];exact DJ a head)) (λz=>n3 (by rw [<-z];exact DK a b)) hb e⟩
 ·obtain ⟨o,es,ep,ho,r⟩:=hm
  obtain ⟨sl,z⟩:=k5 _ o yO ho
  exact ⟨_,es,ep,z,r⟩
 ·refine (I.hok b u e).stay (λc v hc q=>?_) (λ_ q=>q) λ_ _ q=>q
  have tr:∃u',H c=some u':=by
   rcases hc with z|z
   ·exact ⟨u,by rw [z];exact e⟩
   ·exact ⟨_,z⟩
  obtain ⟨u',eu⟩:=tr
  exact k4 c v (λz=>by rw [z,oa.1] at eu;cases eu) (xf c u' eu) (λz=>by rw [kj c z] at eu;cases eu) q
def Np {T:Addr}{fl:Value}(I:Inv X pins U H s) (x:XO s.heap a (.ref C) d (.ref T)) (ne:T≠a) (tb:TB s.heap T fl) (oa:bE X pins H a) (oT:bE X pins H T)
  (h:∀s',Inv X pins U H s'->XO s'.heap a (.ref C) d (.ref T)->TB s'.heap T .none->Q () s'):wpAny (model X.prog X.w) A (setFlight (.ref a) none) Q E s:=by
 refine Nk x tb ne λh' k1 k2 k3 _=>h { s with heap:=h' } ?_ k1 k2
 exact I.turned (t':=s.toks) (it:=T) (λb o nb e=>k3 b o nb e) oT.1 oT.2.2.1 (.inr oT.2.1) oT.2.2.2.1 oT.2.2.2.2
end
section
variable {P:Program}{w:World}{K:PySem.W.Frag}{mg:Ab}{base:Heap}
def e_.okX {x qual:Str}{st:Stmt}{f:Addr}{fd:FuncData}{N ps:Ad}{k:Nat}{sp:Sp}(F:e_ K x qual st f fd) (S:aq N ps (yc st)) (len:∀vs H Q E,sp vs H Q E->vs.length=ps.length)
  (gG:∀(aV:Value) (A:Around) (outer:List Env) (s:Shared) (H:Hp) (vs:List V) (Q:VK) (E:XK),bu k (A.deeper (envOfC qual (yc st) s.heap.objs.size f aV))->sp vs H Q E ->
   ∃t,de (d5 (cZ P w) P w K mg base N qual (yc st) f aV A outer s H E) (wm st) t/\t { nx:=λ_ H'=>Q .non H',rt:=Q } (start N vs) H):bO P w K mg base (cZ P w) (k+1) f fd ps sp:=by
 obtain ⟨oc,od,kV,doc,pm,an,aV,ct,fP,rfl,lk,fN⟩:=F.ex
 exact LQ lk fN S len λA outer s H vs Q E hr k9=>gG aV A outer s H vs Q E hr k9
end
end L2
namespace L2
open PySem PySem.Spec PyProof.Rows PySem.W PySem.Builtin PySem.Builtin.ObjectAttr
def lr:List Value->Bool
 | [.type a,.type b,.type c,.type d]=>a == "ValueError" && b == "Exception" && c == "BaseException" && d == "object"
 | .ref _::r=>lr r
 | _=>false
def sH (K:Frag) (C:Addr):Bool:=(clsIn K C).any λcd=>lr cd.mro
section
variable {prog:Program}{w:World}{A:Around}{E:Aa}{K:Frag}{x C:Addr}{s:Shared}{R:Result->Shared->Prop}
end
section
variable {prog:Program}{w:World}{A:Around}{h:Heap}{g:Array GenState}{d:Drawn}{t:Nat}{os:OsState}{R:Result->Shared->Prop}
variable {nm q:Str}{C N f:Addr}{bs bm Nq:Af}{ke:Bool}{sn:Ad}{sub:Af}{ab:Bool}{col:Option Bool}{dd:Option Addr}{k0 k1 k2 k3 k5:Option Value}{B newId sI:String}
end
structure Nr (K:PySem.W.Frag) (C:Addr) (f:Str):Prop where
 sa:PySem.W.findIn K (.ref C) "__setattr__" = some (some (.builtin "object.__setattr__"))
 line:sH K C=true
 no:PySem.W.takerIn K C f=some none
 hd:PySem.W.hasDictIn K C=true
abbrev nJ:Af:=[.type "ValueError", .type "Exception", .type "BaseException", .type "object"]
structure DN (K:Frag) (C:Addr):Prop where
 ob:∃nm q N bs bm ke sn sub ab col dd k0 k1 k2 k3 k5,K.lookup C=some (excClassObj nm q C N bs bm ke sn sub ab col dd k0 k1 k2 k3 k5 "ValueError.__new__")/\tailIn K nJ bm=true/\nsOkIn K N=true
 kp:keepIn K (.ref C)=true
structure V9 (K:Frag) (C f:Addr):Prop where
 ob:∃nm q N bs bm ke sn sub ab col dd k0 k1 k2 k3 k5,K.lookup C=some (excClassObj nm q C N bs bm ke sn sub ab col dd k0 k1 k2 k3 k5 "ValueError.__new__")/\tailIn K nJ bm=true/\nsOkIn K N=true/\nsIn K N "__init__" = some (some (.ref f))
 fn:isFn K (.ref f)=true
 kp:keepIn K (.ref C)=true
section
variable {M:Model}{A:Around}{E:Aa}{env:Env}{s:Shared}
end
section
variable {X:Cx}{CX:fC}{k:Nat}{f C:Addr}{fd:FuncData}{ps:Ad}{sp:Sp}{E:XK}
end
def XP (X:Cx) (pins:Ac) (U:St) (E:XK) (u:Value) (s':Shared):Prop:=∃(a C:Addr) (d:Option Addr) (H':Hp),u=.ref a/\Inv X pins U H' s'/\sG X pins H' s'.heap a C d/\E (.ref C) d H'
section
variable {X:Cx}{k:Nat}{f C:Addr}{fd:FuncData}{ps:Ad}{sp:Sp}{eA:List V}{ds:Af}{E:XK}{x m:Str}{p pos apos:Pos}{e o:Expr}{es:List Expr}{ta:TE}{t:TA}
end
def lx (C:Addr) (d:Option Addr) (a:Addr):HO:=.ext λ_ _ h=>∃T:Addr,XO h a (.ref C) d (.ref T)
section
variable {X:Cx}{pins:Ac}{U:St}{H:Hp}{s:Shared}{a C:Addr}{d:Option Addr}
end
section
variable {X:Cx}{pins:Ac}{U:St}{H:Hp}{s:Shared}{a C d:Addr}{fs:List (Str×V)}{A:Around}{E:Aa}
def DO (I:Inv X pins U H s) (ha:H a=some (lx C (some d) a)) (hd:H d=some (.xd fs)):∃ox od,InstAt s.heap a ox C (some od)/\∀n,∃o,lookIn n od=some o/\cE (fs.lookup n) o:=by
 obtain ⟨T,oe,vs,e,hc,oj,xg,_⟩:=(show aQ X.prog X.w H s.heap a (lx C (some d) a) from I.hok a _ ha).1
 obtain ⟨mA,hn,r⟩:=(show aQ X.prog X.w H s.heap d (.xd fs) from I.hok d _ hd)
 obtain ⟨od,ho,hl⟩:=CI hn
 refine ⟨oe,od,⟨e,hc,by unfold notCls;rw [xg],by rw [oj];exact ho⟩,λn=>⟨mA n,hl n,r n⟩⟩
end
section
variable {prog:Program}{w:World}{A:Around}{E:Aa}{h:Heap}{g:Array GenState}{d:Drawn}{t:Nat}{os:OsState}
variable {nm q:Str}{C N:Addr}{bs bm Nq:Af}{ke:Bool}{sn:Ad}{sub:Af}{ab:Bool}{col:Option Bool}{dd:Option Addr}{k0 k1 k2 k3 k5:Option Value}{B newId sI:String}
end
def qd (C:Addr) (Er:XK):TS:=λ_ _ H=>Er (.ref C) none H
end L2
namespace L2
open PySem PySem.Spec PyProof.Rows PySem.W
def xh (X:Cx) (pins:Ac) (H:Hp) (h:Heap) (a C:Addr) (d:Option Addr):Prop :=
 ∃T,XO h a (.ref C) d (.ref T)/\T≠a/\TB h T (rawInt X.env.locals)/\bE X pins H a/\bE X pins H T
def xi (X:Cx) (pins:Ac) (H:Hp) (h:Heap) (a C:Addr) (d:Option Addr):Prop:=sG X pins H h a C d\/xh X pins H h a C d
def iO (X:Cx) (E:XK):Prop:=∀(pins:Ac) (U:St) (H:Hp) (s:Shared) (a C:Addr) (d:Option Addr),Inv X pins U H s->xi X pins H s.heap a C d->E (.ref C) d H->X.xe (.ref a) s
def iO.one {X:Cx}{E:XK}(t:iO X E):Throws X E:=λpins U H s a C d I F q=>t pins U H s a C d I (.inl F) q
def XA (X:Cx) (Er:XK) (e:Value) (s:Shared):Prop:=∃(pins:Ac) (U:St) (H:Hp) (a C:Addr) (d:Option Addr),e=.ref a/\Inv X pins U H s/\xi X pins H s.heap a C d/\Er (.ref C) d H
section
variable {X:Cx}{pins:Ac}{U:St}{H:Hp}{s:Shared}{a C:Addr}{d:Option Addr}{A:Around}{E:Aa}{Q:Unit->Shared->Prop}{Er:XK}
def zQ:iO (X.wish (XA X Er)) Er:=λpins U H s a C d I F q=>⟨pins,U,H,a,C,d,rfl,I.unwish,F,q⟩
def DP (I:Inv X pins U H s) (fF:A.frames=some X.stack) (cG:X.stack=X.env::X.outer) (hf:X.env.frame=some X.env.locals) (F:xi X pins H s.heap a C d)
  (h:∀s' T,Inv X pins U H s'->XO s'.heap a (.ref C) d (.ref T)->T≠a->TB s'.heap T (rawInt X.env.locals)->bE X pins H a->bE X pins H T->Q () s'):wpAny (model X.prog X.w) A (noteFrame (.ref a) X.env) Q E s:=by
 rcases F with F|⟨T,x,ne,tb,oa,oT⟩
 ·exact Nn I fF cG hf F h
 ·obtain ⟨oe,vs,e,_,_,hd,_,h1⟩:=id x
  obtain ⟨ot,ts,et,xg,h3⟩:=id tb
  unfold noteFrame
  simp only [hf]
  refine zA (jF e hd h1 ?_)
  rw [zF (show (Value.ref T != Value.none)=true by simp)]
  refine zA (jF et xg h3 ?_)
  rw [zF (by simp)]
  exact yg (h s T I x ne tb oa oT)
def Nt {T f:Addr}{fl:Value}(x:XO s.heap a (.ref C) d (.ref T)) (t:TB s.heap T fl) (ne:T≠a)
  (h:∀h',XO h' a (.ref C) d (.ref T)->TB h' T (rawInt f)->(∀b o,b≠T->s.heap.get? b=some o->h'.get? b=some o)->Q () { s with heap:=h' }) {M:Model}:wpAny M A (setFlight (.ref a) (some f)) Q E s:=by
 obtain ⟨oe,vs,e,_,_,hd,_,h1⟩:=id x
 obtain ⟨oT,ts,eT,hdT,h3⟩:=id t
 unfold setFlight
 refine zA (jF e hd h1 ?_)
 rw [zF (show (Value.ref T != Value.none)=true by simp)]
 refine wpAny_setField eT hdT (Array.getElem?_eq_some_iff.mp h3).1 ?_
 exact h _ (x.keeps λo q=>(iw _ _ ne).trans q) (t.set3 _) λb o nb q=>(iw _ _ (ja nb)).trans q
def jv (cG:X.stack=X.env::X.outer) (hf:X.env.frame=some X.env.locals):PassesOwn (model X.prog X.w) X.A X.env (XA X Er):=by
 rintro e s ⟨pins,U,H,a,C,d,rfl,I,F,q⟩
 unfold notedBy
 refine DP I I.ok.frames cG hf F λs2 T I2 x2 ne Nu oa oT=>?_
 unfold cameBackBy
 obtain ⟨oe,vs,e2,_,_,hd,_,h1⟩:=id x2
 refine zA (jF e2 hd h1 ?_)
 rw [zR (show ¬((Value.ref T==Value.none)=true) by simp),hf]
 refine Nt x2 Nu ne λh' x3 xj k3=>⟨pins,U,H,a,C,d,rfl,?_,.inr ⟨T,x3,ne,xj,oa,oT⟩,q⟩
 exact I2.turned (t':=s2.toks) (it:=T) (λb o nb e=>k3 b o nb e) oT.1 oT.2.2.1 (.inr oT.2.1) oT.2.2.2.1 oT.2.2.2.2
def de.throwing {st:List Stmt}{t:TS}(h:de (X.wish (XA X Er)) st t) (ht:iO X Er):de X st t:=λpins s U H D I hw =>
 wj (h pins s U H D (I.wish _) hw) (λ_ _ q=>q.unwish) λe s' ⟨pins,U,H,a,C,d,ee,I1,F,q⟩=>ee▸ht pins U H s' a C d I1 F q
def xk (t:iO X Er):Passes (cZ X.prog X.w) X Er:=Nl t.one
end
def Nv {P:Program}{w:World}{K:PySem.W.Frag}{mg:Ab}{base:Heap}{N:Ad}{qual:Str}{scope:Scope}{f:Addr}{cd:Value}{A:Around}{outer:List Env}{s:Shared}{H:Hp}{E:XK} :
  iO (d5 (cZ P w) P w K mg base N qual scope f cd A outer s H E) E:=by
 intro pins U H1 s1 a C d I F q
 show wpAny (model P w) (A.deeper (envOfC qual scope s.heap.objs.size f cd)) (leaving (envOfC qual scope s.heap.objs.size f cd) (.ref a)) _ _ s1
 unfold leaving
 refine zA (DP I I.ok.frames rfl rfl F λs2 T I2 x ne tb oa oT=>Np I2 x ne tb oa oT λs3 I3 x3 xj=>?_)
 exact ⟨a,C,T,d,H1,rfl,I3.os,I3.bare,I3.base,I3.hok,x3,ne,xj,⟨oa.2.1,oa.1⟩,⟨oT.2.1,oT.1⟩,q⟩
section
variable {P:Program}{w:World}{K:PySem.W.Frag}{mg:Ab}{base:Heap}
def e_.okT {x qual:Str}{st:Stmt}{f:Addr}{fd:FuncData}{N ps:Ad}{k:Nat}{sp:Sp}(F:e_ K x qual st f fd) (S:aq N ps (yc st)) (len:∀vs H Q E,sp vs H Q E->vs.length=ps.length)
  (gG:∀(aV:Value) (A:Around) (outer:List Env) (s:Shared) (H:Hp) (vs:List V) (Q:VK) (E:XK),bu k (A.deeper (envOfC qual (yc st) s.heap.objs.size f aV))->sp vs H Q E ->
   ∃t,de ((d5 (cZ P w) P w K mg base N qual (yc st) f aV A outer s H E).wish (XA (d5 (cZ P w) P w K mg base N qual (yc st) f aV A outer s H E) E)) (wm st) t/\t { nx:=λ_ H'=>Q .non H',rt:=Q } (start N vs) H):bO P w K mg base (cZ P w) (k+1) f fd ps sp :=
 e_.okX F S len λaV A outer s H vs Q E hr hs=>let ⟨t,h1,h2⟩:=gG aV A outer s H vs Q E hr hs;⟨t,de.throwing h1 Nv,h2⟩
end
end L2
namespace L2
open PySem PySem.Spec PyProof.Rows PySem.W PySem.Builtin PySem.Builtin.ObjectAttr
section
variable {prog:Program}{w:World}{A:Around}{E:Aa}{K:Frag}{x C:Addr}{s:Shared}{ox:Obj}{od:Option Obj}{name:Str}{tk:Tok}
structure kf (K:Frag) (C:Addr):Prop where
 ga:findIn K (.ref C) "__getattribute__" = some (some (.builtin "BaseException.__getattribute__"))
 hk:findIn K (.ref C) "__getattr__" = some none
 hB:mroIn K C (.type "BaseException")=some true
theorem DQ {fill expr:Bool}{Q:Aa}(X:K.In s.heap) (I:InstAt s.heap x ox C od) (G:kf K C)
  (h:wpAny (model prog w) A.in1 (Builtin.«object.__getattribute__» ⟨[.ref x,.str name tk],[]⟩) (λfin s'=>∃v,fin=.done (.ret v)/\handedIn v=true/\Q v s') (λ_ _=>False) s) :
  wpAny (model prog w) A (getAttrBy (.ref x) (.str name tk) fill expr) Q E s:=by
 have L0:=I.type (M:=model prog w)
 have L1:=looks_findIn (M:=model prog w) X G.ga
 have L2:=looks_findIn (M:=model prog w) X G.hk
 have Nw:Looks (model prog w) s.heap (isInstance (.ref x) (.type "BaseException")) true:=I.type.andThen (looks_mroIn X G.hB)
 unfold getAttrBy
 refine wD (zA (L0.here (zA (L1.here ?_))))
 dsimp only
 rw [zR (show ¬((onTheHeap (Value.ref C)&&Value.builtin "BaseException.__getattribute__" == Value.builtin "object.__getattribute__")=true) by
  rw [show (Value.builtin "BaseException.__getattribute__" == Value.builtin "object.__getattribute__")=false by decide +kernel,Bool.and_false];exact Bool.false_ne_true)]
 unfold getAttrByItsOwn hookBefore
 rw [zF (show onTheHeap (Value.ref C)=true from rfl)]
 refine zA (L2.here (zA (wpAny_attempt (wD ?_))))
 unfold callGetattribute
 rw [zR (show ¬((expr&&onTheHeap (Value.builtin "BaseException.__getattribute__"))=true) by cases expr<;>exact Bool.false_ne_true)]
 unfold boundAndCalled
 refine zA (wpAny_of_eq (PySem.F.excAttr_ValueError.ga.bind (.ref x)) ?_)
 refine wpAny_call (codeAny_call_builtin PySem.F.excAttr_ValueError.ga.plain PySem.F.entry_bexc_ga (@check_slot (model prog w) _ _ s "BaseException.__getattribute__" "BaseException" "__getattribute__" (.ref x) [.str name tk] [] _ (by decide +kernel) (by decide +kernel) Nw (PySem.F.args_bexc_ga (.ref x) (.str name tk)) ?_))
 refine wj h (λfin s' ⟨v,ef,hv,q⟩=>?_) λ_ _ z=>z.elim
 subst ef
 show wpAny _ _ (handedOut v) _ _ _
 rw [handedOut_of hv]
 exact yg q
def Nx {v:Value}{Q:Fin->Shared->Prop}(X:K.In s.heap) (I:InstAt s.heap x ox C od) (hf:findObj K C od name=some (.value v)) (h:Q (.done (.ret v)) s) :
  wpAny (model prog w) A (Builtin.«object.__getattribute__» ⟨[.ref x,.str name tk],[]⟩) Q E s:=by
 have L0:=I.type (M:=model prog w)
 have L1:=looks_find (M:=model prog w) X I hf
 exact zA (yg (zA (yg (zA (L0.here (zA (L1.here (yg h))))))))
def Ny {Q:Fin->Shared->Prop} (X:K.In s.heap) (I:InstAt s.heap x ox C od) (hf:findObj K C od "__class__" = some (.bind (.builtin "getset_descriptor.__get__") (.builtin "object.__class__"))) (hm:mroIn K C (.type "object")=some true)
  (h:Q (.done (.ret (.ref C))) s):wpAny (model prog w) A (Builtin.«object.__getattribute__» ⟨[.ref x,.str "__class__" tk],[]⟩) Q E s:=by
 have L0:=I.type (M:=model prog w)
 have L1:=looks_find (M:=model prog w) X I hf
 refine zA (yg (zA (yg (zA (L0.here (zA (L1.here ?_)))))))
 show wpAny _ _ (holding [.builtin "object.__class__"] (call (.builtin "getset_descriptor.__get__") [.builtin "object.__class__", .ref x,.ref C]) >>= ret) _ _ _
 exact zA (wD (wpAny_call (class_get (ox:=ox) (od:=od) X I hm (yg h))))
end
def Nz {K:Frag} {x D:Addr} {ox:Obj} {od:Option Obj} (G:kf K D) (qe:(clsIn K D).isSome=true) (hf:findObj K D od "__class__" = some (.bind (.builtin "getset_descriptor.__get__") (.builtin "object.__class__"))) (hm:mroIn K D (.type "object")=some true) :
  KitX K (.ref x) (.ref D) (λh=>InstAt h x ox D od):=by
 obtain ⟨cd,hc⟩:=Option.isSome_iff_exists.mp qe
 unfold clsIn at hc
 split at hc
 ·rename_i c' d' Wl Cq ho
  refine ⟨λ_ _ _ I=>I.type,λM h X _=>?_,λh tp dd its n sl X NA=>?_,λ{prog w A E Q s} X I k=>?_⟩
  ·intro A' Q' E' s' k q
   unfold isType loadHead
   exact zA (wpAny_loadPart (k _ _ (X _ _ ho)) (yg q))
  ·refine Bool.eq_false_iff.mpr λq=>?_
   obtain rfl:D=tp:=Value.ref.inj (beq_iff_eq.mp q)
   have z:=(X _ _ ho).symm.trans NA
   cases z
  ·unfold getAttr? getAttrBy?
   refine zA (wpAny_mkText (zA (wpAny_attempt ?_)))
   exact DQ (s:={ s with toks:=s.toks+1 }) X I G (Ny (s:={ s with toks:=s.toks+1 }) X I hf hm ⟨_,rfl,rfl,yg k⟩)
 ·cases hc
structure nK (K:Frag) (C:Addr):Prop where
 g:kf K C
 hd:hasDictIn K C=true
 ha:findIn K (.ref C) "__class__" = some (some (.builtin "object.__class__"))
 hn:specialIn K (.builtin "object.__class__") "__get__" = some (some (.builtin "getset_descriptor.__get__"))
 tk:takesIn K (.builtin "object.__class__")=some true
 hm:mroIn K C (.type "object")=some true
section
variable {X:Cx}{pins:Ac}{U:St}{H:Hp}{s:Shared}{a C d:Addr}{fs:List (Str×V)}{A:Around}{E:Aa}
def NB {b:Bool}{f:Str}{v:V}{Q:Aa}(I:Inv X pins U H s) (ha:H a=some (lx C (some d) a)) (hd:H d=some (.xd fs)) (g:kf X.K C) (hh:hasDictIn X.K C=true) (no:findIn X.K (.ref C) f=some none) (l:fs.lookup f=some v)
  (h:∀u s',Inv X pins U H s'->RelV v u->Q u s'):wpAny (model X.prog X.w) A (getAttr (.ref a) f b) Q E s:=by
 obtain ⟨ox,od,J,hl⟩:=DO I ha hd
 obtain ⟨o,ho,r⟩:=hl f
 rw [l] at r
 obtain ⟨u,rfl,ru⟩:=cE.some_of (v:=v) (o:=o) r
 unfold getAttr
 refine zA (wpAny_mkText ?_)
 exact DQ (s:={ s with toks:=s.toks+1 }) I.kIn J g (Nx (s:={ s with toks:=s.toks+1 }) I.kIn J (findObj_own hh no rfl ho) ⟨u,rfl,CL ru,h u _ (I.tok _) ru⟩)
def NC {c:Value}{b:Bool}{Q:Aa}(I:Inv X pins U H s) (ha:H a=some (lx C (some d) a)) (hd:H d=some (.xd fs)) (k:nK X.K C) (e:kitOne X.K (.ref C) c=some b) (h:∀tk,Q (.bool b) { s with toks:=tk }) :
  wpAny (model X.prog X.w) A (call (.builtin "isinstance") [.ref a,c]) Q E s:=by
 obtain ⟨ox,od,J,_⟩:=DO I ha hd
 have cl:(clsIn X.K C).isSome=true:=by obtain ⟨cd,hc,_⟩:=any_some k.hd;rw [hc];rfl
 exact kia_one (Nz k.g cl (findObj_data cl k.ha k.hn k.tk) k.hm) I.kIn J e (λz=>nomatch z) h
end
end L2
namespace L2
open PySem PySem.Spec PyProof.Rows PySem.W
structure mx (prog:Program) (w:World) (it src:Addr) (xs:Array Value) (St:Nat->Heap->Prop):Prop where
 at_:∀{k h h'},St k h->(∀o,h.get? it=some o->h'.get? it=some o)->(∀o,h.get? src=some o->h'.get? src=some o)->St k h'
 lt:∀{k h},St k h->it<h.objs.size
 item:∀{A:Around} {E:Aa} {s:Shared} {k:Nat} {x:Value} {Q:Aa},St k s.heap->xs[k]?=some x->(∀h',St (k+1) h'->Heap.SameBut it s.heap h'->Q x { s with heap:=h' }) ->
  wpAny (model prog w) A (Builtin.SmallTypes.nextOf (.ref it)) Q E s
 stop:∀{A:Around} {E:Aa} {s:Shared} {k:Nat} {Q:Aa},A.handled=none->St k s.heap->xs[k]?=none ->
  (∀h' e,Heap.ExtBut it s.heap h'->(∃o,h'.get? e=some o/\o.cls=.type "StopIteration")->E (.ref e) { s with heap:=h' })->wpAny (model prog w) A (Builtin.SmallTypes.nextOf (.ref it)) Q E s
def qf (it t:Addr) (xs:Array Value) (k:Nat) (h:Heap):Prop:=IsTupIter h it t k/\IsTup h t xs
def kB {prog:Program}{w:World}{it t:Addr}{xs:Array Value}(ne:t≠it):mx prog w it t xs (qf it t xs) where
 at_:=λ{k h h'} q k1 k2=>by
  obtain ⟨⟨o,ho,r⟩,⟨o',ho',r'⟩⟩:=q
  exact ⟨⟨o,k1 o ho,r⟩,⟨o',k2 o' ho',r'⟩⟩
 lt:=λq=>let ⟨⟨_,ho,_⟩,_⟩:=q;yF ho
 item:=λ{A E s k x Q} q hx hQ=>by
  obtain ⟨hit,ht⟩:=q
  obtain ⟨o,ho,hc,hd⟩:=id hit
  obtain ⟨ol,xl,_,nl,om⟩:=id ht
  unfold Builtin.SmallTypes.nextOf
  refine zA (wpAny_callSpecial?_slot (name:=Str.ofString "__next__") hit.typeIs slot_tupleiter_next (w8 slot_tupleiter_next hit.typeIs entry_tupleiter_next ?_ (args_tupleiter_next _)))
  change wpAny _ _ (field (.ref it) 0 >>= _) _ _ s
  refine zA (jF ho hd (x:=.ref t) rfl ?_)
  rw [zR (by simp)]
  change wpAny _ _ (field (.ref it) 1 >>= _) _ _ s
  refine zA (jF ho hd (x:=.int k 0) rfl ?_)
  change wpAny _ _ (seqItems? (.ref t) >>= _) _ _ s
  refine zA (wpAny_seqItems xl om ?_)
  simp only [hx,Int.toNat_natCast]
  have fl:=Obj.data_mapFields hd (·.setIfInBounds 1 (rawInt (k+1)))
  refine zA (wpAny_setField ho hd (by simp) (yg ⟨x,rfl,yg (hQ _ ⟨⟨_,Heap.get?_update_self _ ho (Obj.isFreed_of_fields fl),(Obj.cls_mapFields ..).trans hc,?_⟩,?_⟩ (Heap.SameBut.update ..))⟩))
  ·rw [fl];simp [rawInt]
  ·exact ht.extBut (Heap.SameBut.update ..).extBut ne
 stop:=λ{A E s k Q} hh q hx hE=>by
  obtain ⟨hit,ht⟩:=q
  obtain ⟨o,ho,hc,hd⟩:=id hit
  obtain ⟨ol,xl,_,nl,om⟩:=id ht
  unfold Builtin.SmallTypes.nextOf
  refine zA (wpAny_callSpecial?_slot (name:=Str.ofString "__next__") hit.typeIs slot_tupleiter_next (w8 slot_tupleiter_next hit.typeIs entry_tupleiter_next ?_ (args_tupleiter_next _)))
  change wpAny _ _ (field (.ref it) 0 >>= _) _ _ s
  refine zA (jF ho hd (x:=.ref t) rfl ?_)
  rw [zR (by simp)]
  change wpAny _ _ (field (.ref it) 1 >>= _) _ _ s
  refine zA (jF ho hd (x:=.int k 0) rfl ?_)
  change wpAny _ _ (seqItems? (.ref t) >>= _) _ _ s
  refine zA (wpAny_seqItems xl om ?_)
  simp only [hx,Int.toNat_natCast]
  refine zA (wpAny_rule (zA (wpAny_setField ho hd (by simp) ?_)))
  change wpAny _ _ (newExc (.type "StopIteration") [] >>= _) _ _ _
  refine zA ?_
  simp only [newExc,newTuple]
  refine zA (kg (zA (m:=firstArgMember _ _) (wpAny_of_eq (a:=Value.none) (by first|rfl|(simp only [firstArgMember];rfl)) (kg ?_ (by size_fits)))) (by size_fits))
  simp only [raiseNew]
  refine zA (wpAny_handled ?_)
  first|rw [show A.in1.handled=none from hh]|rw [hh]
  exact zA (yg (wpAny_throw (hE _ _ (((Heap.SameBut.update ..).extBut.push _).push _) ⟨_,jq _ rfl,rfl⟩)))
section
variable {prog:Program}{w:World}{A:Around}{E:Aa}{s:Shared}{z TI TO i1 i2 t1 t2:Addr}{k:Nat}{xs ys:Array Value}{x y a b:Value}{S1 S2:Nat->Heap->Prop}
def mx.by_same (S:mx prog w i1 t1 xs S1) {h h':Heap}{c:Addr}(q:S1 k h) (hs:Heap.SameBut c h h') (n1:i1≠c) (n2:t1≠c):S1 k h' :=
 S.at_ q (λo e=>hs.extBut _ _ n1 e) λo e=>hs.extBut _ _ n2 e
theorem ND {Q:Aa}(D:ZipApart z TI TO i1 i2 t1 t2) (U1:mx prog w i1 t1 xs S1) (U2:mx prog w i2 t2 ys S2) (hz:IsZip s.heap z TI TO .none) (fU:IsPair s.heap TI (.ref i1) (.ref i2)) (gi:IsPair s.heap TO a b)
  (q1:S1 k s.heap) (q2:S2 k s.heap) (hx:xs[k]?=some x) (hy:ys[k]?=some y)
  (hQ:∀h',IsZip h' z TI TO (rawInt s.heap.objs.size)->IsPair h' TO x y->S1 (k+1) h'->S2 (k+1) h'->IsPair h' s.heap.objs.size x y ->
   (∀c o,c≠z->c≠TO->c≠i1->c≠i2->s.heap.get? c=some o->h'.get? c=some o)->Q (.ref s.heap.objs.size) { s with heap:=h' }) :
  wpAny (model prog w) A (Builtin.«zip.__next__» ⟨[.ref z],[]⟩) (λfin s'=>∃v,fin=.done (.ret v)/\Q v s') E s:=by
 change wpAny _ _ (field (.ref z) 2 >>= _) _ _ _
 refine zA (jF hz rfl (x:=.bool false) rfl ?_)
 change wpAny _ _ (field (.ref z) 3 >>= _) _ _ _
 refine zA (jF hz rfl (x:=.ref TI) rfl (zA (wpAny_seqItems fU rfl ?_)))
 change wpAny _ _ (Builtin.SmallTypes.ownedTupleIsFree (.ref z) >>= _) _ _ _
 refine zA ?_
 unfold Builtin.SmallTypes.ownedTupleIsFree
 refine zA (jF hz rfl (x:=.none) rfl (yg ?_))
 rw [zF rfl]
 refine zA (wpAny_rule (zA (jF hz rfl (x:=.ref TO) rfl (zA (wpAny_setField_rec hz (by simp) λh1 z1 e1=>?_)))))
 replace z1:IsZip h1 z TI TO .ellipsis:=z1
 refine zA ?_
 simp only [List.zipIdx_cons,List.zipIdx_nil,List.forIn_cons,List.forIn_nil]
 refine zA (zA (wpAny_onRaise ?_))
 change wpAny _ _ (Builtin.SmallTypes.nextOf (.ref i1) >>= _) _ _ _
 refine zA (U1.item (U1.by_same q1 e1 D.i1z D.l1z) hx λh2 p2 e2=>yg ?_)
 have o2:IsPair h2 TO a b:=e2.extBut _ _ D.TOi1 (e1.extBut _ _ D.TOz gi)
 refine zA (wpAny_seqItems o2 rfl (zA (wpAny_updateSeq_pair o2 λh3 o3 e3=>?_)))
 replace o3:IsPair h3 TO x b:=o3
 refine zA (wpAny_letGo (yg (zA (zA (wpAny_onRaise ?_)))))
 change wpAny _ _ (Builtin.SmallTypes.nextOf (.ref i2) >>= _) _ _ _
 have r3:S2 k h3:=U2.by_same (U2.by_same (U2.by_same q2 e1 D.i2z D.l2z) e2 D.i12.symm D.l2i1) e3 D.TOi2.symm D.l2TO
 refine zA (U2.item r3 hy λh4 p4 e4=>yg ?_)
 have o4:IsPair h4 TO x b:=e4.extBut _ _ D.TOi2 o3
 refine zA (wpAny_seqItems o4 rfl (zA (wpAny_updateSeq_pair o4 λh5 o5 e5=>?_)))
 replace o5:IsPair h5 TO x y:=o5
 refine zA (wpAny_letGo (yg (yg (zA (wpAny_seqItems o5 rfl (zA (wpAny_newTuple ?_)))))))
 have sz:h5.objs.size=s.heap.objs.size:=by rw [e5.1,e4.1,e3.1,e2.1,e1.1]
 have z5:IsZip h5 z TI TO .ellipsis:=e5.extBut _ _ D.TOz.symm (e4.extBut _ _ D.i2z.symm (e3.extBut _ _ D.TOz.symm (e2.extBut _ _ D.i1z.symm z1)))
 have k5:∀c o,c≠z->c≠TO->c≠i1->c≠i2->s.heap.get? c=some o->h5.get? c=some o:=λc o c1 c2 c3 c4 e=>e5.extBut _ _ c2 (e4.extBut _ _ c4 (e3.extBut _ _ c2 (e2.extBut _ _ c3 (e1.extBut _ _ c1 e))))
 have f1:S1 (k+1) h5:=U1.by_same (U1.by_same (U1.by_same p2 e3 D.TOi1.symm D.l1TO) e4 D.i12 D.l1i2) e5 D.TOi1.symm D.l1TO
 have f2:S2 (k+1) h5:=U2.by_same p4 e5 D.TOi2.symm D.l2TO
 change wpAny _ _ (Builtin.SmallTypes.ownedTupleHandOut (.ref z) (.ref h5.objs.size) >>= _) _ _ _
 refine zA ?_
 unfold Builtin.SmallTypes.ownedTupleHandOut
 have z6:IsZip (h5.push { cls:=.type "tuple", data:=.seq #[x,y] }) z TI TO .ellipsis:=yC _ z5
 refine zA (wpAny_setField_rec z6 (by simp) λh7 z7 e7=>?_)
 replace z7:IsZip h7 z TI TO (rawInt h5.objs.size):=z7
 refine wpAny_setField_rec z7 (by simp) λh8 z8 e8=>?_
 replace z8:IsZip h8 z TI TO (rawInt h5.objs.size):=z8
 have up:∀c o,c≠z->h5.get? c=some o->h8.get? c=some o:=λc o c1 e=>e8.extBut _ _ c1 (e7.extBut _ _ c1 (yC _ e))
 have nz:h5.objs.size≠z:=Nat.ne_of_gt (yF z5)
 have pT:IsPair h8 h5.objs.size x y:=e8.extBut _ _ nz (e7.extBut _ _ nz (jq _ rfl))
 rw [sz] at z8 pT
 refine yg ⟨_,rfl,?_⟩
 change Q (.ref h5.objs.size) _
 rw [sz]
 exact hQ h8 z8 (up _ _ D.TOz o5) (U1.at_ f1 (λo e=>up _ o D.i1z e) λo e=>up _ o D.l1z e) (U2.at_ f2 (λo e=>up _ o D.i2z e) λo e=>up _ o D.l2z e) pT λc o c1 c2 c3 c4 e=>up c o c1 (k5 c o c1 c2 c3 c4 e)
def NF {Q:Fin->Shared->Prop}(hh:A.handled=none) (D:ZipApart z TI TO i1 i2 t1 t2) (U1:mx prog w i1 t1 xs S1) (U2:mx prog w i2 t2 ys S2) (hz:IsZip s.heap z TI TO .none) (fU:IsPair s.heap TI (.ref i1) (.ref i2)) (gi:IsPair s.heap TO a b)
  (q1:S1 k s.heap) (q2:S2 k s.heap) (he:xs[k]?=none\/ys[k]?=none)
  (hE:∀h' e,(∀c o,c≠z->c≠TO->c≠i1->c≠i2->s.heap.get? c=some o->h'.get? c=some o)->(∃o,h'.get? e=some o/\o.cls=.type "StopIteration")->E (.ref e) { s with heap:=h' }) :
  wpAny (model prog w) A (Builtin.«zip.__next__» ⟨[.ref z],[]⟩) Q E s:=by
 change wpAny _ _ (field (.ref z) 2 >>= _) _ _ _
 refine zA (jF hz rfl (x:=.bool false) rfl ?_)
 change wpAny _ _ (field (.ref z) 3 >>= _) _ _ _
 refine zA (jF hz rfl (x:=.ref TI) rfl (zA (wpAny_seqItems fU rfl ?_)))
 change wpAny _ _ (Builtin.SmallTypes.ownedTupleIsFree (.ref z) >>= _) _ _ _
 refine zA ?_
 unfold Builtin.SmallTypes.ownedTupleIsFree
 refine zA (jF hz rfl (x:=.none) rfl (yg ?_))
 rw [zF rfl]
 refine zA (wpAny_rule (zA (jF hz rfl (x:=.ref TO) rfl (zA (wpAny_setField_rec hz (by simp) λh1 z1 e1=>?_)))))
 replace z1:IsZip h1 z TI TO .ellipsis:=z1
 refine zA ?_
 simp only [List.zipIdx_cons,List.zipIdx_nil,List.forIn_cons,List.forIn_nil]
 refine zA (zA (wpAny_onRaise ?_))
 change wpAny _ _ (Builtin.SmallTypes.nextOf (.ref i1) >>= _) _ _ _
 have p1:=U1.by_same q1 e1 D.i1z D.l1z
 have DR:∀{h:Heap} {e:Addr} {oe:Obj},IsZip h z TI TO .ellipsis->h.get? e=some oe->oe.cls=.type "StopIteration" -> e≠z:=λiz ho hc x=>by
  rw [x,iz] at ho
  cases ho
  simp at hc
 cases hx:xs[k]? with
 | none =>
  refine zA (U1.stop hh p1 hx λh2 e e2 ⟨oe,qg,qh⟩=>?_)
  have z2:IsZip h2 z TI TO .ellipsis:=e2 _ _ D.i1z.symm z1
  exact wpAny_setField_rec z2 (by simp) λh3 _ e3=>hE h3 e (λc o c1 _ c3 _ x=>e3.extBut _ _ c1 (e2 _ _ c3 (e1.extBut _ _ c1 x))) ⟨oe,e3.extBut _ _ (DR z2 qg qh) qg,qh⟩
 | some x =>
  have hy:ys[k]?=none:=by
   rcases he with h|h
   ·rw [hx] at h;cases h
   ·exact h
  refine zA (U1.item p1 hx λh2 p2 e2=>yg ?_)
  have o2:IsPair h2 TO a b:=e2.extBut _ _ D.TOi1 (e1.extBut _ _ D.TOz gi)
  refine zA (wpAny_seqItems o2 rfl (zA (wpAny_updateSeq_pair o2 λh3 o3 e3=>?_)))
  refine zA (wpAny_letGo (yg (zA (zA (wpAny_onRaise ?_)))))
  change wpAny _ _ (Builtin.SmallTypes.nextOf (.ref i2) >>= _) _ _ _
  have r3:S2 k h3:=U2.by_same (U2.by_same (U2.by_same q2 e1 D.i2z D.l2z) e2 D.i12.symm D.l2i1) e3 D.TOi2.symm D.l2TO
  refine zA (U2.stop hh r3 hy λh4 e e4 ⟨oe,qg,qh⟩=>?_)
  have z4:IsZip h4 z TI TO .ellipsis:=e4 _ _ D.i2z.symm (e3.extBut _ _ D.TOz.symm (e2.extBut _ _ D.i1z.symm z1))
  exact wpAny_setField_rec z4 (by simp) λh5 _ e5=>hE h5 e (λc o c1 c2 c3 c4 x=>e5.extBut _ _ c1 (e4 _ _ c4 (e3.extBut _ _ c2 (e2.extBut _ _ c3 (e1.extBut _ _ c1 x))))) ⟨oe,e5.extBut _ _ (DR z4 qg qh) qg,qh⟩
end
section
variable {X:Cx}{pins:Ac}{U:St}{H:Hp}{s:Shared}{h':Heap}
def Inv.turnL {ch:Ae}{t':Nat}(I:Inv X pins U H s) (hc:∀b∈ch,df X pins H b) (k:∀b o,b∉ch->s.heap.get? b=some o->h'.get? b=some o):Inv X pins U H { s with heap:=h',toks:=t' }:=by
 have gA:∀b u,H b=some u->b∉ch:=λb u e z=>by rw [(hc b z).1] at e;cases e
 refine I.step (g':=s.gens) (d':=s.drawn) (ch:=ch) (λb hb=>?_) (λb o _ _ nb e _=>k b o nb e) (λb o _ _ nb e _=>⟨o.slots,k b o nb e⟩) (λ_ _ _ _ n=>n)
  (λb o nb e=>⟨o,k b o nb e⟩) (λ_ _ e=>e) (λ_ _ _ e=>e) (λb ps e=>⟨#[],by rw [e];simp⟩) (λm hm=>?_) (λb u e=>?_) I.bare
 ·obtain ⟨_,f1,_,f3,f4,f5⟩:=hc b hb
  exact ⟨f3,f1,f4,f5⟩
 ·obtain ⟨o,es,ep,ho,r⟩:=hm
  exact ⟨o,es,ep,k _ o (λz=>(hc _ z).2.1 rfl) ho,r⟩
 ·refine (I.hok b u e).stay (λc v cX q=>k c v ?_ q) (λ_ q=>q) λ_ _ q=>q
  rcases cX with z|z
  ·rw [z];exact gA b u e
  ·exact gA c _ z
def Inv.turnN {ch:Ae}{T:Addr}{o:HO}{t':Nat}(I:Inv X pins U H s) (hc:∀b∈ch,df X pins H b) (k:∀b o,b∉ch->s.heap.get? b=some o->h'.get? b=some o) (hT:s.heap.objs.size<=T)
  (new:aQ X.prog X.w (upd H T o) h' T o):Inv X pins U (upd H T o) { s with heap:=h',toks:=t' }:=by
 have fT:H T=none:=I.hok.fresh hT
 have gA:∀b u,H b=some u->b∉ch:=λb u e z=>by rw [(hc b z).1] at e;cases e
 have nT:∀b u,H b=some u->b≠T:=λb u e z=>by rw [z,fT] at e;cases e
 refine I.step (g':=s.gens) (d':=s.drawn) (ch:=ch) (λb hb=>?_) (λb o _ _ nb e _=>k b o nb e) (λb o _ _ nb e _=>⟨o.slots,k b o nb e⟩) (λb u _ e n=>?_)
  (λb o nb e=>⟨o,k b o nb e⟩) (λb xs e=>?_) (λb u v e=>?_) (λb ps e=>⟨#[],?_⟩) (λm hm=>?_) (λb u e=>?_) I.bare
 ·obtain ⟨_,f1,_,f3,f4,f5⟩:=hc b hb
  exact ⟨f3,f1,f4,f5⟩
 ·rw [yE (jg (jW (yF e) hT))];exact n
 ·rw [yE (nT b _ e)];exact e
 ·rw [yE (nT b _ e)];exact e
 ·rw [yE (nT b _ e),e];simp
 ·obtain ⟨o,es,ep,ho,r⟩:=hm
  exact ⟨o,es,ep,k _ o (λz=>(hc _ z).2.1 rfl) ho,r⟩
 ·by_cases z:b=T
  ·rw [z] at e ⊢
   rw [jh] at e
   cases e
   exact new
  ·rw [yE z] at e
   refine (I.hok b u e).stay (λc v cX q=>k c v ?_ q) (λc q=>by rw [yE (nT c _ q)];exact q) λc xs q=>by rw [yE (nT c _ q)];exact q
   rcases cX with z|z
   ·rw [z];exact gA b u e
   ·exact gA c _ z
end
def xm (K:Frag) (a b:Addr):It :=
 ⟨λi H=>∃xs ys x y,a5 K H a xs/\a5 K H b ys/\xs[i]?=some x/\ys[i]?=some y,
  λi H v H'=>∃T x y,H T=none/\v=.ref T/\H'=upd H T (.tup [x,y])/\(∀xs,a5 K H a xs->xs[i]?=some x)/\∀ys,a5 K H b ys->ys[i]?=some y,
  λi H=>∃xs ys,a5 K H a xs/\a5 K H b ys/\(xs.length<=i\/ys.length<=i)⟩
def DS (z TI TO i1 i2 a b:Addr) (k:Nat) (h:Heap):Prop:=IsZip h z TI TO .none/\IsPair h TI (.ref i1) (.ref i2)/\(∃u v,IsPair h TO u v)/\IsTupIter h i1 a k/\IsTupIter h i2 b k
def oq {X:Cx}{pins:Ac}{U:St}{H:Hp}{s:Shared}{a c:Addr}{xs:List V}(I:Inv X pins U H s) (hf:df X pins H c) (hq:a5 X.K H a xs):a≠c:=by
 rintro rfl
 rcases hq with q|⟨o,its,n,hl,_⟩
 ·rcases q with q|⟨ob,q⟩<;>(rw [hf.1] at q;cases q)
 ·have e:=I.ok.mod.kin _ _ hl
  rcases hf.2.2.2.1 with z|z
  ·exact I.ok.noex _ _ e z
  ·exact absurd (jW (yF (I.ok.bs _ _ e).1) z) (Nat.lt_irrefl _)
structure DT (z TI TO i1 i2:Addr):Prop where
 TIz:TI≠z
 TOz:TO≠z
 i1z:i1≠z
 i2z:i2≠z
 TITO:TI≠TO
 TIi1:TI≠i1
 TIi2:TI≠i2
 TOi1:TO≠i1
 TOi2:TO≠i2
 i12:i1≠i2
theorem NG {P:Program}{w:World}{K:Frag}{elts:List Expr}{kt:Nat}{pos:Pos}{z TI TO i1 i2 a b:Addr}(V5:DT z TI TO i1 i2):Turn P w K (.Tuple elts kt pos) (xm K a b) [z,TI,TO,i1,i2] z (DS z TI TO i1 i2 a b) where
 mem:=by simp
 obj:=λi h st c hc=>by
  obtain ⟨hz,fU,⟨u,v,gi⟩,⟨o1,e1,_,d1⟩,⟨o2,e2,_,d2⟩⟩:=st
  simp only [yz,List.not_mem_nil,gy] at hc
  rcases hc with q|q|q|q|q<;>rw [q]
  ·exact ⟨_,hz,λv z=>by cases z⟩
  ·exact ⟨_,fU,λv z=>by cases z⟩
  ·exact ⟨_,gi,λv z=>by cases z⟩
  ·exact ⟨_,e1,λv z=>by rw [d1] at z;cases z⟩
  ·exact ⟨_,e2,λv z=>by rw [d2] at z;cases z⟩
 keep:=λi h h' st k=>by
  obtain ⟨hz,fU,⟨u,v,gi⟩,⟨o1,e1,r1⟩,⟨o2,e2,r2⟩⟩:=st
  exact ⟨k z (by simp) _ hz,k TI (by simp) _ fU,⟨u,v,k TO (by simp) _ gi⟩,⟨o1,k i1 (by simp) _ e1,r1⟩,⟨o2,k i2 (by simp) _ e2,r2⟩⟩
 item:=by
  intro X hP hw hK hc i pins s U H E I hf st hg
  subst hP hw hK
  obtain ⟨xs,ys,x,y,fH,gk,hx,hy⟩:=hg
  obtain ⟨hz,fU,⟨u0,v0,gi⟩,ou,sJ⟩:=st
  obtain ⟨u_,xn,p1,_⟩:=I.tuple fH
  obtain ⟨aM,xo,p2,_⟩:=I.tuple gk
  obtain ⟨u,hu,ru⟩:=xn.get hx
  obtain ⟨v,hv,rv⟩:=xo.get hy
  have n1:∀c∈[z,TI,TO,i1,i2],a≠c:=λc h=>oq I (hf c h) fH
  have n2:∀c∈[z,TI,TO,i1,i2],b≠c:=λc h=>oq I (hf c h) gk
  have D:ZipApart z TI TO i1 i2 a b:=⟨V5.TIz,V5.TOz,V5.i1z,V5.i2z,V5.TITO,V5.TIi1,V5.TIi2,V5.TOi1,V5.TOi2,V5.i12,n1 z (by simp),n1 TO (by simp),n1 i1 (by simp),n1 i2 (by simp),n2 z (by simp),n2 TO (by simp),n2 i1 (by simp),n2 i2 (by simp)⟩
  have hT:s.TypeIs (.ref z) "zip" := ⟨_,hz,rfl⟩
  unfold pyNext
  refine zA (wpAny_attempt (wpAny_callSpecial?_slot (name:=Str.ofString "__next__") hT F.slot_zip_next (w8 F.slot_zip_next hT F.entry_zip_next
   (ND D (kB D.l1i1) (kB D.l2i2) hz fU gi ⟨ou,p1⟩ ⟨sJ,p2⟩ (by simpa using hu) (by simpa using hv) λh1 z1 o1 f1 f2 pT kk=>yg ⟨_,rfl,?_⟩) (F.args_zip_next_1 _))))
  refine wpAny_letOwnedTupleGo_zip (s:={ s with heap:=h1 }) z1 λh2 z2 e2=>?_
  have fr:H s.heap.objs.size=none:=I.hok.fresh (yk _)
  have up:∀c o,c≠z->h1.get? c=some o->h2.get? c=some o:=λc o n e=>e2.extBut _ _ n e
  have nz:s.heap.objs.size≠z:=Nat.ne_of_gt (yF hz)
  have k2:∀c o,c∉[z,TI,TO,i1,i2]->s.heap.get? c=some o->h2.get? c=some o:=λc o nc e =>
   up c o (λq=>nc (by simp [q])) (kk c o (λq=>nc (by simp [q])) (λq=>nc (by simp [q])) (λq=>nc (by simp [q])) (λq=>nc (by simp [q])) e)
  refine ⟨.ref s.heap.objs.size,upd H s.heap.objs.size (.tup [x,y]),?_,rfl,⟨s.heap.objs.size,x,y,fr,rfl,rfl,λdz h'=>by rw [I.tuple_inj h' fH];exact hx,λly h'=>by rw [I.tuple_inj h' gk];exact hy⟩,?_,λc cX=>?_⟩
  ·exact Inv.turnN (s:=s) (h':=h2) (t':=s.toks) I hf k2 (yk _) ⟨show 2<=sizeLine by decide,[u,v],.cons ru (.cons rv .nil),_,up _ _ nz pT,rfl,_,rfl⟩
  ·exact ⟨z2,up _ _ D.TIz (kk _ _ D.TIz D.TITO D.TIi1 D.TIi2 fU),⟨_,_,up _ _ D.TOz o1⟩,(let ⟨o,e,r⟩:=f1.1;⟨o,up _ _ D.i1z e,r⟩),(let ⟨o,e,r⟩:=f2.1;⟨o,up _ _ D.i2z e,r⟩)⟩
  ·have q:c≠s.heap.objs.size:=by
    have lt:∃o,s.heap.get? c=some o:=by
     simp only [yz,List.not_mem_nil,gy] at cX
     rcases cX with q|q|q|q|q<;>rw [q]
     ·exact ⟨_,hz⟩
     ·exact ⟨_,fU⟩
     ·exact ⟨_,gi⟩
     ·exact let ⟨o,e,_⟩:=ou;⟨o,e⟩
     ·exact let ⟨o,e,_⟩:=sJ;⟨o,e⟩
    obtain ⟨o,e⟩:=lt
    exact jg (yF e)
   rw [yE q]
   exact (hf c cX).1
 done:=by
  intro X hP hw hK hc i pins s U H E I hf st hg
  subst hP hw hK
  obtain ⟨xs,ys,fH,gk,hx⟩:=hg
  obtain ⟨hz,fU,⟨u0,v0,gi⟩,ou,sJ⟩:=st
  obtain ⟨u_,xn,p1,_⟩:=I.tuple fH
  obtain ⟨aM,xo,p2,_⟩:=I.tuple gk
  have l1:=xn.length
  have l2:=xo.length
  have n1:∀c∈[z,TI,TO,i1,i2],a≠c:=λc h=>oq I (hf c h) fH
  have n2:∀c∈[z,TI,TO,i1,i2],b≠c:=λc h=>oq I (hf c h) gk
  have D:ZipApart z TI TO i1 i2 a b:=⟨V5.TIz,V5.TOz,V5.i1z,V5.i2z,V5.TITO,V5.TIi1,V5.TIi2,V5.TOi1,V5.TOi2,V5.i12,n1 z (by simp),n1 TO (by simp),n1 i1 (by simp),n1 i2 (by simp),n2 z (by simp),n2 TO (by simp),n2 i1 (by simp),n2 i2 (by simp)⟩
  have hT:s.TypeIs (.ref z) "zip" := ⟨_,hz,rfl⟩
  unfold pyNext
  refine zA (wpAny_attempt (wpAny_callSpecial?_slot (name:=Str.ofString "__next__") hT F.slot_zip_next (w8 F.slot_zip_next hT F.entry_zip_next
   (NF (I.ok.hd hc) D (kB D.l1i1) (kB D.l2i2) hz fU gi ⟨ou,p1⟩ ⟨sJ,p2⟩ (hx.imp (λh=>by simp;omega) λh=>by simp;omega) λh1 e kk he=>?_) (F.args_zip_next_1 _))))
  obtain ⟨o,ho,NH⟩:=he
  refine zA (wpAny_isInstance (T := "StopIteration") (b:=true) ⟨o,ho,NH⟩ isSubtype_stop ?_)
  exact yg ⟨rfl,Inv.turnL (t':=s.toks) I hf λc o nc e=>kk c o (λq=>nc (by simp [q])) (λq=>nc (by simp [q])) (λq=>nc (by simp [q])) (λq=>nc (by simp [q])) e⟩
 self:=λ_ _ _ _ _ st h=>wpAny_pyIter_zip st.1 h
abbrev sL (h:Heap) (a:Addr):Heap:=h.push { cls:=.type "tuple_iterator", data:=.fields #[.ref a,.int 0 0] }
abbrev sN (h:Heap) (a b:Addr):Heap:=(sL h a).push { cls:=.type "tuple_iterator", data:=.fields #[.ref b,.int 0 0] }
abbrev sO (h:Heap) (a b:Addr):Heap:=(sN h a b).push { cls:=.type "tuple", data:=.seq #[.ref h.objs.size,.ref (sL h a).objs.size] }
abbrev sP (h:Heap) (a b:Addr):Heap:=(sO h a b).push { cls:=.type "tuple", data:=.seq #[.none,.none] }
abbrev kC (h:Heap) (a b:Addr):Heap:=(sP h a b).push { cls:=.type "zip", data:=.fields #[.none,.bool false,.bool false,.ref (sN h a b).objs.size,.ref (sO h a b).objs.size] }
def NI (a b:Addr) (xs ys:Array Value) :
  Meets (Builtin.«zip.__new__» ⟨[.type "zip", .ref a,.ref b],[]⟩) (λ_ R s=>IsTup s.heap a xs/\IsTup s.heap b ys/\R (.ok (.ret (.ref (sP s.heap a b).objs.size))) { s with heap:=kC s.heap a b }) :=
 .of_wp λprog w A R s h=>by
  obtain ⟨hp,g,d,tk,os⟩:=s
  obtain ⟨h1,h2,h⟩:=h
  have DU:=sub_zip
  have H1:IsTup (Shared.heap ⟨hp,g,d,tk,os⟩) a xs:=h1
  have H2:IsTup (Shared.heap ⟨hp.push { cls:=.type "tuple_iterator", data:=.fields #[.ref a,.int 0 0] },g,d,tk,os⟩) b ys:=h2.push _
  wp_walk using iter_tuple H1,iter_tuple H2
  exact ⟨_,rfl,h⟩
section
variable {prog:Program}{w:World}{A:Around}{E:Aa}{s:Shared}
def NJ {a b:Addr}{xs ys:Array Value}{Q:Aa}(h1:IsTup s.heap a xs) (h2:IsTup s.heap b ys)
  (h:DS (s.heap.objs.size+4) (s.heap.objs.size+2) (s.heap.objs.size+3) s.heap.objs.size (s.heap.objs.size+1) a b 0 (kC s.heap a b)->Q (.ref (s.heap.objs.size+4)) { s with heap:=kC s.heap a b }) :
  wpAny (model prog w) A (call (.type "zip") [.ref a,.ref b]) Q E s:=by
 refine callType_new F.called_zip (by decide) (F.typeCall_zip_2 _ _) (F.newCall_zip_2 _ _) (λobj=>F.args_object_init_3 obj _ _) F.entry_zip_new (NI a b xs ys) ⟨h1,h2,?_⟩
 have z1:(sL s.heap a).objs.size=s.heap.objs.size+1:=Heap.size_push ..
 have z2:(sN s.heap a b).objs.size=s.heap.objs.size+2:=by rw [Heap.size_push,z1]
 have z3:(sO s.heap a b).objs.size=s.heap.objs.size+3:=by rw [Heap.size_push,z2]
 have z4:(sP s.heap a b).objs.size=s.heap.objs.size+4:=by rw [Heap.size_push,z3]
 have g5:(kC s.heap a b).get? (sP s.heap a b).objs.size=some _:=jq _ rfl
 have g4:(kC s.heap a b).get? (sO s.heap a b).objs.size=some _:=yC _ (jq _ rfl)
 have g3:(kC s.heap a b).get? (sN s.heap a b).objs.size=some _:=yC _ (yC _ (jq _ rfl))
 have g2:(kC s.heap a b).get? (sL s.heap a).objs.size=some _:=yC _ (yC _ (yC _ (jq _ rfl)))
 have g1:(kC s.heap a b).get? s.heap.objs.size=some _:=yC _ (yC _ (yC _ (yC _ (jq _ rfl))))
 show _/\_
 rw [z2,z3,z4] at g5
 rw [z1,z2] at g3
 rw [z3] at g4
 rw [z1] at g2
 rw [z4]
 exact ⟨⟨_,g5,rfl⟩,h ⟨g5,g3,⟨_,_,g4⟩,⟨_,g1,rfl,rfl⟩,⟨_,g2,rfl,rfl⟩⟩⟩
end
theorem NK:bootBuiltins "zip" = some (.type "zip"):=by decide +kernel
def NL (K:Frag) (ta:TA):TI:=λU H R=>ta U H λvs H1=>∃a b,vs=[.ref a,.ref b]/\(∃xs,a5 K H1 a xs)/\(∃ys,a5 K H1 b ys)/\R (xm K a b) H1
theorem NM {X:Cx} {elts:List Expr} {kt:Nat} {tp:Pos} {x y:Expr} {ta:TA} {p pos:Pos} (hg:Gl X "zip") (hm:X.mg "zip" = none) (ha:PA X [x,y] ta) (hs:starEach [x,y] X.env=[(false,eval x X.env),(false,eval y X.env)]:=by rfl) (lY:starEach [y] X.env=[(false,eval y X.env)]:=by rfl) :
  PI X (.Tuple elts kt tp) (.Call (.Name "zip" p) [x,y] [] pos) (NL X.K ta):=by
 intro pins s U H R I h
 refine Call_ (lV I hg hm NK (PyProof.Rows.callWith_type1 (aO (ha pos pins s U H _ I h) λus s1 ⟨vs,H1,I1,r1,q1⟩=>?_) (by rw [hs,lY]) (by rw [lY];rfl)))
 obtain ⟨a,b,e,⟨xs,fH⟩,⟨ys,gk⟩,q⟩:=q1
 subst e
 obtain ⟨u,v,rfl,ru,rv⟩:=vG r1
 obtain rfl:u=Value.ref a:=ru
 obtain rfl:v=Value.ref b:=rv
 obtain ⟨u_,_,p1,_⟩:=I1.tuple fH
 obtain ⟨aM,_,p2,_⟩:=I1.tuple gk
 refine NJ p1 p2 λst=>wpAny_pyIter_zip st.1 ?_
 have kk:∀c o,s1.heap.get? c=some o->(kC s1.heap a b).get? c=some o:=λc o e=>yC _ (yC _ (yC _ (yC _ (yC _ e))))
 refine ⟨_,[s1.heap.objs.size+4,s1.heap.objs.size+2,s1.heap.objs.size+3,s1.heap.objs.size,s1.heap.objs.size+1],_,_,H1,rfl,I1.kept (t':=s1.toks) kk,NG ?_,st,λc hc=>?_,q⟩
 ·have ne:∀(n i j:Nat),i≠j->n+i≠n+j:=λn i j h z=>h (Nat.add_left_cancel z)
  have sQ:∀(n i:Nat),i≠0->n+i≠n:=λn i h z=>h (by omega)
  exact ⟨ne _ 2 4 (by decide),ne _ 3 4 (by decide),(sQ _ 4 (by decide)).symm,ne _ 1 4 (by decide),ne _ 2 3 (by decide),sQ _ 2 (by decide),ne _ 2 1 (by decide),sQ _ 3 (by decide),ne _ 3 1 (by decide),(sQ _ 1 (by decide)).symm⟩
 ·have le:s1.heap.objs.size<=c:=by
   simp only [yz,List.not_mem_nil,gy] at hc
   rcases hc with q|q|q|q|q<;>rw [q]<;>first|exact yk _|exact Nat.le_add_right _ _
  exact I1.fpOk le (I1.hok.fresh le)
structure KD (X:Cx) (a:Addr):Prop where
 ob:∃es n,X.K.lookup a=some ⟨.type "dict", none,.dict es n,#[]⟩/\KeysLit X.w.params es.toList
 no:(a==sysModules)=false
section
variable {X:Cx}
end
end L2
namespace Mi
open PySem L2 PySem.W
inductive PV where
 | non|bl (b:Bool)|int (i:Int)|str (x:Str)|ty (n:String)
 | tup (xs:List PV)|frl (xs:List PV)|ref (n:Nat)|fn (x:Str)|kd (ks:Ad) (xs:List PV)|exo (c:Str) (ks:Ad) (xs:List PV)
inductive SO where
 | lst (xs:List PV)|dic (ks:Ad) (xs:List PV)|ins (c:Str) (ks:Ad) (xs:List PV)|fdi (ks:Ad) (xs:List PV)|dit (ks:List (List Key)) (xs:List PV)
abbrev ae:=List SO
inductive Res (α:Type) where
 | ok (a:α) (st:ae)|err (c:Str) (ks:Ad) (xs:List PV) (st:ae)|stuck
abbrev Mo (α:Type):=ae->Res α
def Res.bind {α β:Type}:Res α->(α->Mo β)->Res β
 | .ok a st,f=>f a st
 | .err c ks xs st,_=>.err c ks xs st
 | .stuck,_=>.stuck
abbrev zj:=List (Option PV)
def NN (K:Frag) (a:Addr) (ks:Ad) (us:Af):Prop:=∀z,nsIn K a z=some ((ks.zip us).lookup z)
def kD (K:Frag) (H:Hp) (a:Addr) (vs:List V):Prop :=
 (∃o,H a=some (.frz o (.lst vs)))\/∃(o:Obj) (its:Array Value) (n:Nat),K.lookup a=some o/\o.cls=.type "list" /\ o.dict=none/\o.data=.seq its n/\its.size<=sizeLine/\Vals vs its.toList
def kD.sq {K:Frag}{H:Hp}{a:Addr}{vs:List V}(h:kD K H a vs):aZ K H a vs:=by
 rcases h with ⟨o,h⟩|h
 ·exact .inl (.inr ⟨o,h⟩)
 ·exact .inr h
section
variable (K:Frag) (mg:Ab)
mutual
def R (ρ:Ae) (H:Hp):PV->V->Prop
 | .non,v=>v=.non
 | .bl b,v=>v=.bl b
 | .int i,v=>v=.int i
 | .str x,v=>v=.str x
 | .ty n,v=>v=.ty n
 | .tup xs,v=>∃a vs,v=.ref a/\a5 K H a vs/\Rs ρ H xs vs
 | .frl xs,v=>∃a vs,v=.ref a/\kD K H a vs/\Rs ρ H xs vs
 | .ref n,v=>∃a,v=.ref a/\ρ[n]?=some a
 | .fn x,v=>∃f,v=.ref f/\mg x=some (.ref f)
 | .kd ks xs,v=>∃a us vs,v=.ref a/\NN K a ks us/\Vals vs us/\Rs ρ H xs vs
 | .exo c ks xs,v=>∃a C d vs,v=.ref a/\mg c=some (.ref C)/\H a=some (lx C (some d) a)/\H d=some (.xd (ks.zip vs))/\Rs ρ H xs vs/\ks.length=vs.length
def Rs (ρ:Ae) (H:Hp):List PV->List V->Prop
 | [],vs=>vs=[]
 | x::xs,vs=>∃v r,vs=v::r/\R ρ H x v/\Rs ρ H xs r
end
def dE (a:Addr) (its:List (List Key×Addr×Value)):HO:=.ext λP w h=>its.length<=sizeLine/\(a==sysModules)=false /\
 ∃o es ep,h.get? a=some o/\o.ExactDict/\o.data=.dict es ep/\es.toList=its.map (entryOfKey (tupleKind (aY P w)))/\(its.map (·.1)).Nodup
def iP (ρ:Ae) (H:Hp):SO->Addr->Prop
 | .lst xs,a=>∃vs,H a=some (.lst vs)/\Rs K mg ρ H xs vs
 | .dic ks xs,a=>∃vs,H a=some (.dK ((ks.map Sum.inr).zip vs))/\Rs K mg ρ H xs vs/\ks.length=vs.length
 | .ins c ks xs,a=>∃C dx vs,mg c=some (.ref C)/\H a=some (.ins C dx (ks.zip vs))/\Rs K mg ρ H xs vs/\ks.length=vs.length
 | .fdi ks xs,a=>∃o vs,H a=some (.frz o (.dK ((ks.map Sum.inr).zip vs)))/\Rs K mg ρ H xs vs/\ks.length=vs.length
 | .dit ks xs,a=>∃its vs,H a=some (dE a its)/\its.map (·.1)=ks/\(∀x,x∈its->a5 K H x.2.1 (x.1.map kV))/\Vals vs (its.map (·.2.2))/\Rs K mg ρ H xs vs
structure aX (ρ:Ae) (H:Hp) (st:ae):Prop where
 len:ρ.length=st.length
 nd:ρ.Nodup
 at_:∀(n:Nat) so,st[n]?=some so->∃a,ρ[n]?=some a/\iP K mg ρ H so a
def Still (φ:Program->World->Heap->Prop):Prop:=∀P w,∃h:Heap,φ P w h/\∀b o es ep,h.get? b=some o->o.data ≠ .dict es ep
open Classical in
noncomputable def sR:HO->Bool
 | .tup _=>true
 | .frz _ _=>true
 | .xd _=>true
 | .ext φ=>decide (Still φ)
 | _=>false
structure Ext (ρ:Ae) (H:Hp) (ah:Ae) (H':Hp):Prop where
 pre:∃δ,ah=ρ++δ
 imm:∀a o,H a=some o->sR o=true->H' a=some o
def NP {C:Addr}{d:Option Addr}{a:Addr}:sR (lx C d a)=true:=by
 have st:Still λ_ _ h=>∃T:Addr,XO h a (.ref C) d (.ref T):=λP w=>by
  have g:∀b,(Heap.mk (Array.replicate (a+1) { cls:=.ref C,dict:=d,data:=.fields #[.none,.ref 0,.none,.none,.none,.none] }) {}).get? b=if b<a+1 then some { cls:=.ref C,dict:=d,data:=.fields #[.none,.ref 0,.none,.none,.none,.none] } else none:=by
   intro b
   unfold Heap.get?
   by_cases hb:b<a+1
   ·simp [Array.getElem?_replicate,hb]
   ·simp [Array.getElem?_replicate,hb]
  refine ⟨_,⟨0,_,_,(g a).trans (zF (wv a)),rfl,rfl,rfl,rfl,rfl⟩,λb o es ep e=>?_⟩
  rw [g b] at e
  split at e
  ·cases e;intro z;cases z
  ·cases e
 exact @decide_eq_true _ (Classical.propDecidable _) st
def NQ (P:Program) (w:World) {a:Addr}{its:List (List Key×Addr×Value)}:sR (dE a its)=false:=by
 refine @decide_eq_false _ (Classical.propDecidable _) λst=>?_
 obtain ⟨h,⟨_,_,o,es,ep,e,_,d,_⟩,n⟩:=st P w
 exact n _ _ _ _ e d
def XR (ρ:Ae) (H:Hp) (c:Str) (ks:Ad) (xs:List PV) (Cv:Value) (d:Option Addr):Prop :=
 ∃C,Cv=.ref C/\mg c=some (.ref C)/\((ks=[]/\d=none)\/∃dd vs,d=some dd/\H dd=some (.xd (ks.zip vs))/\Rs K mg ρ H xs vs/\ks.length=vs.length)
def Out {α:Type}(ρ:Ae) (H:Hp) (r:Res α) (good:List Addr->Hp->α->ae->Prop) (E:XK):Prop :=
 match r with
 | .ok x st=>∀ah H',Ext ρ H ah H'->aX K mg ah H' st->good ah H' x st
 | .err c ks xs st=>∀ah H' C d,Ext ρ H ah H'->aX K mg ah H' st->XR K mg ah H' c ks xs C d->E C d H'
 | .stuck=>False
structure a_ (ρ:Ae) (H:Hp) (env:zj) (U:St):Prop where
 len:env.length=U.length
 at_:∀(i:Nat) x,env[i]?=some (some x)->∃v,U[i]?=some (some v)/\R K mg ρ H x v
def gV (Q:VK):List Addr->Hp->PV->ae->Prop:=fun ρ H x _=>∀v,R K mg ρ H x v->Q v H
def NR (Q:List V->Hp->Prop):List Addr->Hp->List PV->ae->Prop:=fun ρ H x _=>∀v,Rs K mg ρ H x v->Q v H
def gB (Q:Bool->Hp->Prop):List Addr->Hp->Bool->ae->Prop:=λ_ H x _=>Q x H
inductive Fl where
 | nx (env:zj)|rt (x:PV)|bk (env:zj)|ct (env:zj)
abbrev Ag:=List (List Key)
abbrev Ah:=zj->Mo (List PV)
abbrev Ai:=zj->Mo PV
abbrev Aj:=zj->Mo Fl
abbrev Ak:=zj->Mo Bool
abbrev Al:=List PV->Mo PV
abbrev Am:=PV->PV->Mo PV
abbrev An:=List PV
abbrev Ao:=Option PV
def gS (D:Ends):List Addr->Hp->Fl->ae->Prop:=fun ρ H x _ =>
 match x with
 | .nx env=>∀U,a_ K mg ρ H env U->D.nx U H
 | .rt x=>∀v,R K mg ρ H x v->D.rt v H
 | .bk env=>∀U,a_ K mg ρ H env U->D.bk U H
 | .ct env=>∀U,a_ K mg ρ H env U->D.ct U H
end
section
variable {K:Frag}{mg:Ab}{ρ af am:Ae}{H H1 H2:Hp}
def Ext.refl:Ext ρ H ρ H:=⟨⟨[],by simp⟩,λ_ _ h _=>h⟩
def Ext.trans (a:Ext ρ H af H1) (b:Ext af H1 am H2):Ext ρ H am H2:=by
 obtain ⟨⟨d,hd⟩,i⟩:=a
 obtain ⟨⟨d',gz⟩,i'⟩:=b
 exact ⟨⟨d++d',by rw [gz,hd,wG]⟩,λa o h m=>i' a o (i a o h m) m⟩
def Ext.get (a:Ext ρ H af H1) {n:Nat}{p:Addr}(h:ρ[n]?=some p):af[n]?=some p:=by
 obtain ⟨⟨d,hd⟩,_⟩:=a
 rw [hd,wQ (yl.mp h).1]
 exact h
def Ext.sqT (e:Ext ρ H af H1) {a:Addr}{xs:List V}(h:a5 K H a xs):a5 K H1 a xs:=by
 rcases h with (h|⟨o,h⟩)|h
 ·exact .inl (.inl (e.imm _ _ h rfl))
 ·exact .inl (.inr ⟨o,e.imm _ _ h rfl⟩)
 ·exact .inr h
def Ext.frl (e:Ext ρ H af H1) {a:Addr}{xs:List V}(h:kD K H a xs):kD K H1 a xs:=by
 rcases h with ⟨o,h⟩|h
 ·exact .inl ⟨o,e.imm _ _ h rfl⟩
 ·exact .inr h
mutual
theorem R.ext (e:Ext ρ H af H1):∀(x:PV) {v:V},R K mg ρ H x v->R K mg af H1 x v
 | .non,_,h=>h
 | .bl _,_,h=>h
 | .int _,_,h=>h
 | .str _,_,h=>h
 | .ty _,_,h=>h
 | .tup xs,_,h=>by
  obtain ⟨a,vs,h1,h2,h3⟩:=h
  exact ⟨a,vs,h1,e.sqT h2,Rs.ext e xs h3⟩
 | .frl xs,_,h=>by
  obtain ⟨a,vs,h1,h2,h3⟩:=h
  exact ⟨a,vs,h1,e.frl h2,Rs.ext e xs h3⟩
 | .ref n,_,h=>by
  obtain ⟨a,h1,h2⟩:=h
  exact ⟨a,h1,e.get h2⟩
 | .fn _,_,h=>h
 | .kd ks xs,_,h=>by
  obtain ⟨a,us,vs,h1,h2,h4,h3⟩:=h
  exact ⟨a,us,vs,h1,h2,h4,Rs.ext e xs h3⟩
 | .exo c ks xs,_,h=>by
  obtain ⟨a,C,d,vs,h1,h2,h3,h4,h5,h6⟩:=h
  exact ⟨a,C,d,vs,h1,h2,e.imm _ _ h3 NP,e.imm _ _ h4 rfl,Rs.ext e xs h5,h6⟩
theorem Rs.ext (e:Ext ρ H af H1):∀(xs:An) {vs:List V},Rs K mg ρ H xs vs->Rs K mg af H1 xs vs
 | [],_,h=>h
 | x::xs,_,h=>by
  obtain ⟨v,r,h1,h2,h3⟩:=h
  exact ⟨v,r,h1,R.ext e x h2,Rs.ext e xs h3⟩
end
def a_.ext (e:Ext ρ H af H1) {env:zj}{U:St}(h:a_ K mg ρ H env U):a_ K mg af H1 env U :=
 ⟨h.len,λi x hx=>let ⟨v,a,b⟩:=h.at_ i x hx;⟨v,a,R.ext e x b⟩⟩
theorem Rs.len:∀{xs:An}{vs:List V},Rs K mg ρ H xs vs->xs.length=vs.length
 | [],_,h=>by cases h;rfl
 | x::xs,_,h=>by
  obtain ⟨v,r,rfl,_,h3⟩:=h
  simp [Rs.len h3]
theorem Rs.get:∀{xs:An}{vs:List V}{i:Nat}{x:PV},Rs K mg ρ H xs vs->xs[i]?=some x->∃v,vs[i]?=some v/\R K mg ρ H x v
 | [],_,_,_,_,e=>by simp at e
 | x::xs,_,0,_,h,e=>by
  obtain ⟨v,r,rfl,h2,h3⟩:=h
  simp at e
  subst e
  exact ⟨v,by simp,h2⟩
 | x::xs,_,i+1,y,h,e=>by
  obtain ⟨v,r,rfl,h2,h3⟩:=h
  simp at e
  obtain ⟨v',h4,h5⟩:=Rs.get h3 e
  exact ⟨v',by simpa using h4,h5⟩
theorem Rs.append:∀{xs ys:An}{vs ws:List V},Rs K mg ρ H xs vs->Rs K mg ρ H ys ws->Rs K mg ρ H (xs++ys) (vs++ws)
 | [],_,_,_,h,h'=>by cases h;exact h'
 | x::xs,_,_,_,h,h'=>by
  obtain ⟨v,r,rfl,h2,h3⟩:=h
  exact ⟨v,r++_,rfl,h2,Rs.append h3 h'⟩
theorem Rs.take:∀{xs:An}{vs:List V}(n:Nat),Rs K mg ρ H xs vs->Rs K mg ρ H (xs.take n) (vs.take n)
 | [],_,n,h=>by cases h;simp [Rs]
 | x::xs,_,0,h=>by simp [Rs]
 | x::xs,_,n+1,h=>by
  obtain ⟨v,r,rfl,h2,h3⟩:=h
  exact ⟨v,_,rfl,h2,Rs.take n h3⟩
theorem Rs.drop:∀{xs:An}{vs:List V}(n:Nat),Rs K mg ρ H xs vs->Rs K mg ρ H (xs.drop n) (vs.drop n)
 | [],_,n,h=>by cases h;simp [Rs]
 | x::xs,_,0,h=>h
 | x::xs,_,n+1,h=>by
  obtain ⟨v,r,rfl,h2,h3⟩:=h
  exact Rs.drop n h3
def a_.set {env:zj}{U:St}{x:PV}{v:V}(h:a_ K mg ρ H env U) (i:Nat) (r:R K mg ρ H x v):a_ K mg ρ H (env.set i (some x)) (U.set i (some v)):=by
 refine ⟨by simp [h.len],λj y hy=>?_⟩
 rw [List.getElem?_set] at hy ⊢
 by_cases cx:i=j
 ·subst cx
  by_cases hl:i<env.length
  ·rw [zF rfl,zF hl] at hy
   rw [zF rfl,zF (by rw [<-h.len];exact hl)]
   cases hy
   exact ⟨v,rfl,r⟩
  ·rw [zF rfl,zR hl] at hy
   cases hy
 ·rw [zR cx] at hy ⊢
  exact h.at_ j y hy
def a_.cons {env:zj}{U:St}{x:PV}{v:V}(h:a_ K mg ρ H env U) (r:R K mg ρ H x v):a_ K mg ρ H (some x::env) (some v::U):=by
 refine ⟨by simp [h.len],λj y hy=>?_⟩
 cases j with
 | zero=>simp at hy;subst hy;exact ⟨v,by simp,r⟩
 | succ j=>simp at hy;simpa using h.at_ j y hy
def aX.addr {st:ae}{n:Nat}{so:SO}(s:aX K mg ρ H st) (e:st[n]?=some so) {a:Addr}(ha:ρ[n]?=some a):iP K mg ρ H so a:=by
 obtain ⟨b,hb,h⟩:=s.at_ n so e
 rw [ha] at hb
 cases hb
 exact h
def iP.some {so:SO}{a:Addr}(h:iP K mg ρ H so a):∃o,H a=some o/\True:=by
 cases so with
 | lst xs=>obtain ⟨vs,h,_⟩:=h;exact ⟨_,h,trivial⟩
 | dic ks xs=>obtain ⟨vs,h,_⟩:=h;exact ⟨_,h,trivial⟩
 | ins c ks xs=>obtain ⟨C,dx,vs,_,h,_⟩:=h;exact ⟨_,h,trivial⟩
 | fdi ks xs=>obtain ⟨o,vs,h,_⟩:=h;exact ⟨_,h,trivial⟩
 | dit ks xs=>obtain ⟨its,vs,h,_⟩:=h;exact ⟨_,h,trivial⟩
def aX.in_ {st:ae}{n:Nat}{a:Addr}(s:aX K mg ρ H st) (h:ρ[n]?=some a):∃so,st[n]?=some so/\iP K mg ρ H so a:=by
 have hl:n<st.length:=by rw [<-s.len];exact (yl.mp h).1
 refine ⟨st[n],by simp [hl],s.addr (by simp [hl]) h⟩
def iP.ext' {so:SO}{a:Addr}(e:Ext ρ H af H1) (h:iP K mg ρ H so a) (k:H1 a=H a):iP K mg af H1 so a:=by
 cases so with
 | lst xs=>obtain ⟨vs,h1,h2⟩:=h;exact ⟨vs,by rw [k];exact h1,Rs.ext e xs h2⟩
 | dic ks xs=>obtain ⟨vs,h1,h2,h3⟩:=h;exact ⟨vs,by rw [k];exact h1,Rs.ext e xs h2,h3⟩
 | ins c ks xs=>obtain ⟨C,dx,vs,h0,h1,h2,h3⟩:=h;exact ⟨C,dx,vs,h0,by rw [k];exact h1,Rs.ext e xs h2,h3⟩
 | fdi ks xs=>obtain ⟨o,vs,h1,h2,h3⟩:=h;exact ⟨o,vs,by rw [k];exact h1,Rs.ext e xs h2,h3⟩
 | dit ks xs=>obtain ⟨its,vs,h1,h2,h3,h4,h5⟩:=h;exact ⟨its,vs,by rw [k];exact h1,h2,λx hx=>e.sqT (h3 x hx),h4,Rs.ext e xs h5⟩
def Ext.new {p:Addr}{o:HO}(hp:H p=none):Ext ρ H ρ (upd H p o) :=
 ⟨⟨[],by simp⟩,λa o' h _=>by rw [yE (iG h hp)];exact h⟩
def aX.new {st:ae}{p:Addr}{o:HO}(s:aX K mg ρ H st) (hp:H p=none):aX K mg ρ (upd H p o) st :=
 ⟨s.len,s.nd,λn so e=>by
  obtain ⟨a,ha,h⟩:=s.at_ n so e
  obtain ⟨o',ho,_⟩:=h.some
  exact ⟨a,ha,h.ext' (Ext.new hp) (yE (iG ho hp))⟩⟩
def Ext.push {p:Addr}{o:HO}(hp:H p=none):Ext ρ H (ρ++[p]) (upd H p o) :=
 ⟨⟨[p],rfl⟩,λa o' h _=>by rw [yE (iG h hp)];exact h⟩
theorem aX.push {st:ae}{p:Addr}{o:HO}{so:SO}(s:aX K mg ρ H st) (hp:H p=none) (n:iP K mg (ρ++[p]) (upd H p o) so p):aX K mg (ρ++[p]) (upd H p o) (st++[so]):=by
 refine ⟨by simp [s.len],?_,λi sS e=>?_⟩
 ·refine List.nodup_append.mpr ⟨s.nd,by simp,λa ha b hb=>?_⟩
  obtain rfl:b=p:=by simpa using hb
  obtain ⟨n,hn⟩:=List.getElem?_of_mem ha
  obtain ⟨sS,_,h⟩:=s.in_ hn
  obtain ⟨o',ho,_⟩:=h.some
  exact iG ho hp
 ·by_cases hi:i<st.length
  ·rw [wQ hi] at e
   obtain ⟨a,ha,h⟩:=s.at_ i sS e
   obtain ⟨o',ho,_⟩:=h.some
   exact ⟨a,(Ext.push (o:=o) hp).get ha,h.ext' (Ext.push hp) (yE (iG ho hp))⟩
  ·rw [iC (by omega)] at e
   have oh:i=st.length:=by
    have:=(yl.mp e).1
    simp at this
    omega
   subst oh
   simp at e
   subst e
   exact ⟨p,by rw [<-s.len];simp,n⟩
def Ext.write {a:Addr}{o o':HO}(ha:H a=some o) (hi:sR o=false):Ext ρ H ρ (upd H a o') :=
 ⟨⟨[],by simp⟩,λb u h m=>by
  rw [yE]
  ·exact h
  ·intro z;subst z;rw [ha] at h;cases h;rw [hi] at m;cases m⟩
def aX.write {st:ae}{n:Nat}{a:Addr}{o':HO}{so:SO}(s:aX K mg ρ H st) (hn:ρ[n]?=some a) (ew:Ext ρ H ρ (upd H a o')) (h:iP K mg ρ (upd H a o') so a):aX K mg ρ (upd H a o') (st.set n so):=by
 refine ⟨by simp [s.len],s.nd,λi sS e=>?_⟩
 rw [List.getElem?_set] at e
 by_cases cx:n=i
 ·subst cx
  rw [zF rfl] at e
  split at e
  ·cases e;exact ⟨a,hn,h⟩
  ·cases e
 ·rw [zR cx] at e
  obtain ⟨b,hb,q⟩:=s.at_ i sS e
  have ne:b≠a:=by
   intro z
   subst z
   obtain ⟨h1,h2⟩:=yl.mp hn
   obtain ⟨h3,h4⟩:=yl.mp hb
   have pw:=List.pairwise_iff_getElem.mp s.nd
   rcases Nat.lt_trichotomy n i with c|c|c
   ·exact pw n i h1 h3 c (h2.trans h4.symm)
   ·exact cx c
   ·exact pw i n h3 h1 c (h4.trans h2.symm)
  exact ⟨b,hb,q.ext' ew (yE ne)⟩
section
variable {α β:Type}{E:XK}{good:List Addr->Hp->α->ae->Prop}
def Out.ext {r:Res α}(h:Out K mg ρ H r good E) (e:Ext ρ H af H1):Out K mg af H1 r good E:=by
 cases r with
 | ok x st=>exact λah H' e' s=>h ah H' (e.trans e') s
 | err c ks xs st=>exact λah H' C d e' s x=>h ah H' C d (e.trans e') s x
 | stuck=>exact h
def Out.mono {r:Res α}{d7:List Addr->Hp->α->ae->Prop}(h:Out K mg ρ H r good E) (g:∀ah H' x st,Ext ρ H ah H'->aX K mg ah H' st->good ah H' x st->d7 ah H' x st):Out K mg ρ H r d7 E:=by
 cases r with
 | ok x st=>exact λah H' e' s=>g ah H' x st e' s (h ah H' e' s)
 | err c ks xs st=>exact h
 | stuck=>exact h
def Out.bind {r:Res β}{f:β->Mo α}(h:Out K mg ρ H (r.bind f) good E):Out K mg ρ H r (λah H' x st=>Out K mg ah H' (f x st) good E) E:=by
 cases r with
 | ok x st=>exact λah H' e' s=>Out.ext h e'
 | err c ks xs st=>exact h
 | stuck=>exact h
def Out.then {r:Res β}{f:β->Mo α}{d7:List Addr->Hp->β->ae->Prop}(h:Out K mg ρ H (r.bind f) good E) (g:∀ah H' x st,Ext ρ H ah H'->aX K mg ah H' st->Out K mg ah H' (f x st) good E->d7 ah H' x st):Out K mg ρ H r d7 E:=h.bind.mono g
def Out.now {x:α}{st:ae}(h:Out K mg ρ H (.ok x st) good E) (s:aX K mg ρ H st):good ρ H x st:=h ρ H Ext.refl s
end
end
end Mi
namespace Mi
open PySem L2 PySem.W PySem.Spec
abbrev lim:Nat:=1000000
def jn {n:Nat}(h:n<=lim):n<=sizeLine:=by rw [sizeLine_eq];show n<=16777216;exact jr h (by decide)
section
variable (K:Frag) (mg:Ab)
def tM (Er:XK) (f:Ai):TE:=λU H Q=>∃env st ρ,a_ K mg ρ H env U/\aX K mg ρ H st/\Out K mg ρ H (f env st) (gV K mg Q) Er
def oy (Er:XK) (f:Ak):TT:=λU H Q=>∃env st ρ,a_ K mg ρ H env U/\aX K mg ρ H st/\Out K mg ρ H (f env st) (gB Q) Er
def NS (Er:XK) (f:Ah):TA:=λU H Q=>∃env st ρ,a_ K mg ρ H env U/\aX K mg ρ H st/\Out K mg ρ H (f env st) (NR K mg Q) Er
def sM (Er:XK) (f:Aj):TS:=λD U H=>∃env st ρ,a_ K mg ρ H env U/\aX K mg ρ H st/\Out K mg ρ H (f env st) (gS K mg D) Er
end
def ME (X:Cx) (Er:XK) (e:Expr) (f:Ai):Prop:=PE X e (tM X.K X.mg Er f)
def MT (X:Cx) (Er:XK) (e:Expr) (f:Ak):Prop:=PT X e (oy X.K X.mg Er f)
def MW (X:Cx) (Er:XK) (e:Expr) (f:Ak):Prop:=PW X e (oy X.K X.mg Er f)
def MA (X:Cx) (Er:XK) (e:List Expr) (f:Ah):Prop:=PA X e (NS X.K X.mg Er f)
def MS (X:Cx) (Er:XK) (e:Stmt) (f:Aj):Prop:=PS X e (sM X.K X.mg Er f)
def ff (X:Cx) (Er:XK) (e:List Stmt) (f:Aj):Prop:=de X e (sM X.K X.mg Er f)
section
variable {X:Cx}{Er:XK}{e a b c:Expr}{es:List Expr}{pos:Pos}{t t':TE}
def PE.weak (h:PE X e t) (w:∀U H Q,t' U H Q->t U H Q):PE X e t':=λpins s U H Q I q=>h pins s U H Q I (w U H Q q)
def PT.weak {t t':TT}(h:PT X e t) (w:∀U H Q,t' U H Q->t U H Q):PT X e t':=λpins s U H Q I q=>h pins s U H Q I (w U H Q q)
def PW.weak {t t':TT}(h:PW X e t) (w:∀U H Q,t' U H Q->t U H Q):PW X e t':=λwh pins s U H Q I q=>h wh pins s U H Q I (w U H Q q)
def PA.weak {t t':TA}(h:PA X es t) (w:∀U H Q,t' U H Q->t U H Q):PA X es t':=λpos pins s U H Q I q=>h pos pins s U H Q I (w U H Q q)
def PS.weak {st:Stmt}{t t':TS}(h:PS X st t) (w:∀D U H,t' D U H->t D U H):PS X st t':=λpins s U H D I q=>h pins s U H D I (w D U H q)
def de.weak {st:List Stmt}{t t':TS}(h:de X st t) (w:∀D U H,t' D U H->t D U H):de X st t':=λpins s U H D I q=>h pins s U H D I (w D U H q)
def zc (i:Nat):Ai:=λenv st=>match env[i]? with
 | some (some x)=>.ok x st
 | _=>.stuck
def mC (x:PV):Ai:=λ_ st=>.ok x st
def zh (i:Nat) {x:Str} {pos:Pos} (hN:X.N[i]?=some x:=by rfl) (hv:pB X.env.scope x:=by first|exact Or.inl rfl|exact Or.inr (Or.inl rfl)|exact Or.inr (Or.inr rfl)) (hd:(x==("__debug__" : Str))=false:=by decide)
  (fN:(x==("__classdict__" : Str))=false:=by decide):ME X Er (.Name x pos) (zc i):=PE.weak (Cz hN hv hd fN) λU H Q ⟨env,st,ρ,re,rs,h⟩=>by
 unfold zc at h
 split at h
 ·rename_i x' hx
  obtain ⟨v,h1,h2⟩:=re.at_ i x' hx
  exact ⟨v,h1,h.now rs v h2⟩
 ·exact h.elim
def qi {x:PV}{v:V}(hp:PE X e (tC v)) (hr:∀ρ H,R X.K X.mg ρ H x v):ME X Er e (mC x):=PE.weak hp λU H Q ⟨env,st,ρ,re,rs,h⟩=>h.now rs v (hr ρ H)
def zp {i:Int}{j}:ME X Er (.Constant (.int i) j pos) (mC (.int i)):=qi JT λ_ _=>rfl
def zS {x:Str}{j}:ME X Er (.Constant (.str x) j pos) (mC (.str x)):=qi JW λ_ _=>rfl
def zal {b:Bool}{j}:ME X Er (.Constant (.bool b) j pos) (mC (.bl b)):=qi JU λ_ _=>rfl
def wx {j}:ME X Er (.Constant .none j pos) (mC .non):=qi JV λ_ _=>rfl
def fI (K:Frag) (mg:Ab) (r:R2) (op:Am):Prop:=∀ρ H st x y v w (Q:VK) (E:XK),aX K mg ρ H st->R K mg ρ H x v->R K mg ρ H y w->Out K mg ρ H (op x y st) (gV K mg Q) E->r v w H Q
def ze (op:Am) (fa fb:Ai):Ai:=λenv st=>(fa env st).bind λx ao=>(fb env ao).bind λy ax=>op x y ax
variable {fa fb fc:Ai}
def sT {r:R2}{op:Am}{K:Frag}{mg:Ab}(hm:fI K mg r op) {U:St}{H:Hp}{Q:VK}(h:tM K mg Er (ze op fa fb) U H Q):pM r (tM K mg Er fa) (tM K mg Er fb) U H Q:=by
 obtain ⟨env,st,ρ,re,rs,h⟩:=h
 exact ⟨env,st,ρ,re,rs,h.then λaf H1 x ao e1 s1 h1 v rv=>⟨env,ao,af,re.ext e1,s1,h1.then λam H2 y ax e2 s2 h2 w rw=>hm am H2 ax x y v w Q Er s2 (R.ext e2 x rv) rw h2⟩⟩
def NT {o:Operator}{r:R2}{op:Am}(ho:bf X (binaryOp o) r) (hm:fI X.K X.mg r op) (ha:ME X Er a fa) (hb:ME X Er b fb):ME X Er (.BinOp a o b pos) (ze op fa fb) :=
 PE.weak (KO ho ha hb) λU H Q h=>sT hm h
def NU {o:CmpOp}{r:R2}{op:Am}(ho:bf X (compareOp o) r) (hm:fI X.K X.mg r op) (ha:ME X Er a fa) (hb:ME X Er b fb) (hk:behindInMarks o b=false):ME X Er (.Compare a [o] [b] pos) (ze op fa fb) :=
 PE.weak (Lc ho ha hb hk) λU H Q h=>sT hm h
def kE:PV->Mo Bool
 | .bl b,st=>.ok b st
 | _,_=>.stuck
def mB (f:Ai):Ak:=λenv st=>(f env st).bind kE
def NV {K:Frag}{mg:Ab}{ρ:Ae}{H:Hp}{x:PV}{st:ae}{Q:Bool->Hp->Prop}(s:aX K mg ρ H st) (h:Out K mg ρ H (kE x st) (gB Q) Er) {v:V}(r:R K mg ρ H x v):∃k,v=.bl k/\Q k H:=by
 unfold kE at h
 split at h
 ·cases r;exact ⟨_,rfl,h.now s⟩
 ·exact h.elim
def DV {α:Type}{K:Frag}{mg:Ab}{ρ:Ae}{H:Hp}{x:PV}{st:ae}{f:Bool->Mo α}{good:List Addr->Hp->α->ae->Prop}(h:Out K mg ρ H ((kE x st).bind f) good Er):∃k,x=.bl k/\Out K mg ρ H (f k st) good Er:=by
 cases x with
 | bl k=>exact ⟨k,rfl,h⟩
 | _=>exact h.elim
def DW {f:Ai}{K:Frag}{mg:Ab}{U:St}{H:Hp}{Q:Bool->Hp->Prop}(h:oy K mg Er (mB f) U H Q):tM K mg Er f U H λx H1=>∃c,x=.bl c/\Q c H1:=by
 obtain ⟨env,st,ρ,re,rs,h⟩:=h
 exact ⟨env,st,ρ,re,rs,h.then λaf H1 x ao e1 s1 h1 v rv=>NV s1 h1 rv⟩
def NW {o:CmpOp}{r:R2}{op:Am}(ho:bf X (compareOp o) r) (hm:fI X.K X.mg r op) (ha:ME X Er a fa) (hb:ME X Er b fb) (hk:behindInMarks o b=false):MT X Er (.Compare a [o] [b] pos) (mB (ze op fa fb)) :=
 PT.weak (Le ho ha hb hk) λU H Q h=>sT hm (DW h)
def wH (h:ME X Er e fa) (he:∀whole,isTrue e X.env whole=(do let v <-whole;standAt e.pos;holding [v] (truthy v)):=by intro _;rfl):MT X Er e (mB fa) :=
 PT.weak (JY h he) λU H Q h=>DW h
def DX (K:Frag) (mg:Ab) (r:V->Hp->VK->Prop) (op:PV->Mo PV):Prop:=∀ρ H st x v (Q:VK) (E:XK),aX K mg ρ H st->R K mg ρ H x v->Out K mg ρ H (op x st) (gV K mg Q) E->r v H Q
def wn (op:PV->Mo PV) (fa:Ai):Ai:=λenv st=>(fa env st).bind op
def NX {o:UnaryOp}{r:V->Hp->VK->Prop}{op:PV->Mo PV}(ho:pL X (unaryOp o) r) (hm:DX X.K X.mg r op) (ha:ME X Er a fa):ME X Er (.UnaryOp o a pos) (wn op fa) :=
 PE.weak (KP ho ha) λU H Q ⟨env,st,ρ,re,rs,h⟩=>⟨env,st,ρ,re,rs,h.then λaf H1 x ao e1 s1 h1 v rv=>hm af H1 ao x v Q Er s1 rv h1⟩
variable {ga gb:Ak}{rest:List Expr}
def wI (ga gb:Ak):Ak:=λenv st=>(ga env st).bind λc ao=>if c=true then gb env ao else .ok false ao
def jw (ga gb:Ak):Ak:=λenv st=>(ga env st).bind λc ao=>if c=true then .ok true ao else gb env ao
def j9 (ga:Ak):Ak:=λenv st=>(ga env st).bind λc ao=>.ok (!c) ao
def zcI (ha:MT X Er a ga):MW X Er (.BoolOp .And [a] pos) ga:=J3 ha
def zbG (ha:MT X Er a ga):MW X Er (.BoolOp .Or [a] pos) ga:=J4 ha
def zb8 (ha:MT X Er a ga) (hb:MW X Er (.BoolOp .And (b::rest) pos) gb):MW X Er (.BoolOp .And (a::b::rest) pos) (wI ga gb) :=
 PW.weak (J5 ha hb) λU H Q ⟨env,st,ρ,re,rs,h⟩=>⟨env,st,ρ,re,rs,h.then λaf H1 k ao e1 s1 h1=>by
  cases k with
  | true=>exact ⟨env,ao,af,re.ext e1,s1,h1⟩
  | false=>exact h1.now s1⟩
def za8 (ha:MT X Er a ga) (hb:MW X Er (.BoolOp .Or (b::rest) pos) gb):MW X Er (.BoolOp .Or (a::b::rest) pos) (jw ga gb) :=
 PW.weak (J6 ha hb) λU H Q ⟨env,st,ρ,re,rs,h⟩=>⟨env,st,ρ,re,rs,h.then λaf H1 k ao e1 s1 h1=>by
  cases k with
  | false=>exact ⟨env,ao,af,re.ext e1,s1,h1⟩
  | true=>exact h1.now s1⟩
def zac {op:BoolOp}(h:MW X Er (.BoolOp op es pos) ga):MT X Er (.BoolOp op es pos) ga:=PW.pt h
def zbm (ha:MT X Er a ga):MT X Er (.UnaryOp .Not a pos) (j9 ga):=PT.weak (J7 ha) λU H Q ⟨env,st,ρ,re,rs,h⟩=>⟨env,st,ρ,re,rs,h.then λaf H1 k ao e1 s1 h1=>h1.now s1⟩
def gQ (fa fb:Ai):Ai:=λenv st=>(fa env st).bind λx ao=>(kE x ao).bind λc ax=>if c=true then fb env ax else .ok (.bl false) ax
def xq (fa:Ai):Ai:=λenv st=>(fa env st).bind λx ao=>(kE x ao).bind λc ax=>.ok (.bl (!c)) ax
def zdG {op}(h:ME X Er a fa):ME X Er (.BoolOp op [a] pos) fa:=J_ h
def zcJ (ha:ME X Er a fa) (hb:ME X Er (.BoolOp .And (b::rest) pos) fb):ME X Er (.BoolOp .And (a::b::rest) pos) (gQ fa fb) :=
 PE.weak (Ka ha hb) λU H Q ⟨env,st,ρ,re,rs,h⟩=>⟨env,st,ρ,re,rs,h.then λaf H1 x ao e1 s1 h1 v rv=>by
  obtain ⟨k,rfl,h1⟩:=DV h1
  cases rv
  refine ⟨k,rfl,?_⟩
  cases k with
  | true=>exact ⟨env,ao,af,re.ext e1,s1,h1⟩
  | false=>exact Out.now (x:=PV.bl false) h1 s1 _ rfl⟩
def zpt (ha:ME X Er a fa):ME X Er (.UnaryOp .Not a pos) (xq fa) :=
 PE.weak (Kb ha) λU H Q ⟨env,st,ρ,re,rs,h⟩=>⟨env,st,ρ,re,rs,h.then λaf H1 x ao e1 s1 h1 v rv=>by
  obtain ⟨k,rfl,h1⟩:=DV h1
  cases rv
  exact ⟨k,rfl,Out.now (x:=PV.bl (!k)) h1 s1 _ rfl⟩⟩
def zm:Ah:=λ_ st=>.ok [] st
def zd (f:Ai) (fs:Ah):Ah:=λenv st=>(f env st).bind λx ao=>(fs env ao).bind λxs ax=>.ok (x::xs) ax
variable {fs:Ah}
def zq:MA X Er [] zm:=PA.weak sh λU H Q ⟨env,st,ρ,re,rs,h⟩=>h.now rs [] rfl
def DY (ha:ME X Er e fa) (hr:MA X Er es fs) (hs:starEach (e::es) X.env=(false,eval e X.env)::starEach es X.env:=by rfl):MA X Er (e::es) (zd fa fs) :=
 PA.weak (si ha hr hs) λU H Q ⟨env,st,ρ,re,rs,h⟩=>⟨env,st,ρ,re,rs,h.then λaf H1 x ao e1 s1 h1 v rv=>⟨env,ao,af,re.ext e1,s1,h1.then λam H2 xs ax e2 s2 h2 vs xr =>
  h2.now s2 (v::vs) ⟨v,vs,rfl,R.ext e2 x rv,xr⟩⟩⟩
def zE (fs:Ah):Ai:=λenv st=>(fs env st).bind λxs ao=>if xs.length<=lim then .ok (.tup xs) ao else .stuck
def jb (fs:Ah):Ai:=λenv st=>(fs env st).bind λxs ao=>if xs.length<=lim then .ok (.ref ao.length) (ao++[.lst xs]) else .stuck
def R.tup_of {K:Frag}{mg:Ab}{ρ:Ae}{H:Hp}{xs:An}{vs:List V}{p:Addr}(r:Rs K mg ρ H xs vs) (hp:H p=none):R K mg ρ (upd H p (.tup vs)) (.tup xs) (.ref p) :=
 ⟨p,vs,rfl,a5.of jh,Rs.ext (Ext.new hp) xs r⟩
def zP {x1}(h:MA X Er es fs):ME X Er (.Tuple es x1 pos) (zE fs) :=
 PE.weak (LG h) λU H Q ⟨env,st,ρ,re,rs,h⟩=>⟨env,st,ρ,re,rs,h.then λaf H1 xs ao e1 s1 h1 vs rv=>by
  split at h1
  ·rename_i hl
   exact ⟨by rw [<-rv.len];exact jn hl,λp hp=>h1 af _ (Ext.new hp) (s1.new hp) _ (R.tup_of rv hp)⟩
  ·exact h1.elim⟩
def Out.newList {K:Frag}{mg:Ab}{ρ:Ae}{H:Hp}{st:ae}{xs:An}{vs:List V}{p:Addr}{Q:VK}(h:Out K mg ρ H (.ok (.ref st.length) (st++[.lst xs])) (gV K mg Q) Er) (s:aX K mg ρ H st) (r:Rs K mg ρ H xs vs) (hp:H p=none):Q (.ref p) (upd H p (.lst vs)) :=
 h (ρ++[p]) _ (Ext.push hp) (s.push hp ⟨vs,jh,Rs.ext (Ext.push hp) xs r⟩) _ ⟨p,rfl,by rw [<-s.len];simp⟩
def jx (h:MA X Er es fs):ME X Er (.List es pos) (jb fs) :=
 PE.weak (LH h) λU H Q ⟨env,st,ρ,re,rs,h⟩=>⟨env,st,ρ,re,rs,h.then λaf H1 xs ao e1 s1 h1 vs rv=>by
  split at h1
  ·rename_i hl
   exact ⟨by rw [<-rv.len];exact jn hl,λp hp=>Out.newList h1 s1 rv hp⟩
  ·exact h1.elim⟩
def NY {r:R2}{op:Am}(ho:fQ X r) (hm:fI X.K X.mg r op) (ha:ME X Er a fa) (hb:ME X Er b fb) (hs:gI b:=by exact λ_ _=>rfl):ME X Er (.Subscript a b pos) (ze op fa fb) :=
 PE.weak (Me ho ha hb hs) λU H Q h=>sT hm h
end
end Mi
namespace HT
open PySem PySem.Spec PyProof.Rows
section
variable {prog:Program}{w:World}{A:Around}{E:Aa}{s:Shared}
def getItem_tuple_all {t sl:Addr}{items:Array Value}{vl vu:Value}{lo hi:Option Int}{Q:Aa}(ht:IsTup s.heap t items) (hs:s.heap.IsSliceOf sl vl vu .none) (pl:IsPart vl lo) (pu:IsPart vu hi)
  (hw:sIx items.size 0 lo=0/\sIx items.size items.size hi=items.size) (h:Q (.ref t) s)
  (hsz:items.size<=sizeLine):wpAny (model prog w) A (getItem (.ref t) (.ref sl)) Q E s:=by
 obtain ⟨os,l8,sj,pR⟩:=id hs
 have vJ:s.TypeIs (.ref sl) "slice" := ⟨os,l8,sj⟩
 unfold getItem
 try with_reducible refine wD ?_
 first|refine zA (yg ?_)|skip
 refine zA (wpAny_sequenceKey ht.typeIs (by decide) ?_)
 refine zA (wpAny_callSpecial?_slot (name:=Str.ofString "__getitem__") ht.typeIs PyProof.Rows.slot_tuple_getitem
  (w8 PyProof.Rows.slot_tuple_getitem ht.typeIs entry_tuple_getitem ?_ (args_tuple_getitem _ _)))
 show wpAny _ _ (Builtin.Tuple.tupleItemsOf (.ref t) >>= _) _ _ s
 refine zA (tupleItemsOf_ ht ?_)
 refine zA (wpAny_typeOf vJ ?_)
 rw [zF (by decide)]
 refine zA (C3 hs pl pu ?_)
 have DZ:(((sIx items.size 0 lo:Nat):Int)==0&&(1:Int)==1&&(sIx items.size items.size hi-sIx items.size 0 lo)==items.size)=true:=by
  rw [hw.1,hw.2];simp
 show wpAny _ _ (if (((sIx items.size 0 lo:Nat):Int)==0&&(1:Int)==1&&(sIx items.size items.size hi-sIx items.size 0 lo)==items.size)=true then _ else _) _ _ s
 rw [zF DZ]
 unfold Builtin.Tuple.tupleIsExact
 refine zA (zA (wpAny_typeOf ht.typeIs (yg ?_)))
 rw [zF (by decide)]
 exact zA (wpAny_rule (yg ⟨_,rfl,yg h⟩))
def cat_tup0 {t b:Addr}{ws:Af}{Q:Aa}(ht:IsTup s.heap t #[]) (hb:IsTup s.heap b ws.toArray) (h1:Q (.ref b) s):wpAny (model prog w) A (binaryOp .Add (.ref t) (.ref b)) Q E s:=by
 obtain ⟨⟨cls,dd,data,sl⟩,ho,hc,n,hd⟩:=id ht
 obtain ⟨⟨u9,lZ,data2,l5⟩,ho2,gH,n2,hd2⟩:=id hb
 simp only at hc hd gH hd2
 subst hc hd gH hd2
 exact concat_meets ⟨_,ho,rfl⟩ ⟨_,ho2,rfl⟩ noFill_tuple_add seq_tuple_add PySem.F.slot_tuple_add PySem.F.entry_tuple_add (PySem.F.args_tuple_add_2 _ _)
   (tuple_addW0 t b #[] ws.toArray n n2 dd lZ sl l5 (by simp)) ⟨ho,ho2,h1⟩
end
end HT
namespace Mi
open PySem L2 PySem.W PySem.Spec
section
variable {X:Cx}{Er:XK}{K:Frag}{mg:Ab}
def cP (X:Cx) (o:Operator) (op:Am):Prop:=∃r,bf X (binaryOp o) r/\fI X.K X.mg r op
def b3 (X:Cx) (o:CmpOp) (op:Am):Prop:=∃r,bf X (compareOp o) r/\fI X.K X.mg r op
def lA (X:Cx) (op:Am):Prop:=∃r,fQ X r/\fI X.K X.mg r op
def vb (X:Cx) (o:UnaryOp) (op:PV->Mo PV):Prop:=∃r,pL X (unaryOp o) r/\DX X.K X.mg r op
variable {a b c e:Expr}{es:List Expr}{pos:Pos}{fa fb fc:Ai}{fs:Ah}
def zB {o:Operator}{op:Am}(h:cP X o op) (ha:ME X Er a fa) (hb:ME X Er b fb):ME X Er (.BinOp a o b pos) (ze op fa fb):=let ⟨_,h1,h2⟩:=h;NT h1 h2 ha hb
def sU {o:CmpOp}{op:Am}(h:b3 X o op) (ha:ME X Er a fa) (hb:ME X Er b fb) (hk:behindInMarks o b=false:=by first|exact nG _|with_unfolding_all rfl):ME X Er (.Compare a [o] [b] pos) (ze op fa fb):=let ⟨_,h1,h2⟩:=h;NU h1 h2 ha hb hk
def yj {o:CmpOp}{op:Am}(h:b3 X o op) (ha:ME X Er a fa) (hb:ME X Er b fb) (hk:behindInMarks o b=false:=by first|exact nG _|with_unfolding_all rfl):MT X Er (.Compare a [o] [b] pos) (mB (ze op fa fb)):=let ⟨_,h1,h2⟩:=h;NW h1 h2 ha hb hk
def zH {op:Am}(h:lA X op) (ha:ME X Er a fa) (hb:ME X Er b fb) (hs:gI b:=by exact λ_ _=>rfl):ME X Er (.Subscript a b pos) (ze op fa fb):=let ⟨_,h1,h2⟩:=h;NY h1 h2 ha hb hs
def NZ {o:UnaryOp}{op:PV->Mo PV}(h:vb X o op) (ha:ME X Er a fa):ME X Er (.UnaryOp o a pos) (wn op fa):=let ⟨_,h1,h2⟩:=h;NX h1 h2 ha
def Out.ifp {α:Type}{ρ:Ae}{H:Hp}{p:Prop} [Decidable p] {r:Res α}{good:List Addr->Hp->α->ae->Prop}(h:Out K mg ρ H (if p then r else .stuck) good Er):p/\Out K mg ρ H r good Er:=by
 split at h
 ·rename_i hp;exact ⟨hp,h⟩
 ·exact h.elim
def yx {α:Type}(st:ae) (n:Nat) (k:List PV->Res α):Res α:=match st[n]? with
 | some (.lst xs)=>k xs
 | _=>.stuck
def jY {α:Type}(st:ae) (n:Nat) (k:List Str->List PV->Res α):Res α:=match st[n]? with
 | some (.dic ks xs)=>k ks xs
 | _=>.stuck
def wo {α:Type}(st:ae) (n:Nat) (k:Str->List Str->List PV->Res α):Res α:=match st[n]? with
 | some (.ins c ks xs)=>k c ks xs
 | _=>.stuck
def jK {α:Type}{ρ:Ae}{H:Hp}{st:ae}{n:Nat}{k:List PV->Res α}{good:List Addr->Hp->α->ae->Prop}(h:Out K mg ρ H (yx st n k) good Er):∃xs,st[n]?=some (.lst xs)/\Out K mg ρ H (k xs) good Er:=by
 unfold yx at h
 split at h
 ·rename_i xs e;exact ⟨xs,e,h⟩
 ·exact h.elim
def N0 {α:Type}{ρ:Ae}{H:Hp}{st:ae}{n:Nat}{k:List Str->List PV->Res α}{good:List Addr->Hp->α->ae->Prop}(h:Out K mg ρ H (jY st n k) good Er):∃ks xs,st[n]?=some (.dic ks xs)/\Out K mg ρ H (k ks xs) good Er:=by
 unfold jY at h
 split at h
 ·rename_i ks xs e;exact ⟨ks,xs,e,h⟩
 ·exact h.elim
def D0 {α:Type}{ρ:Ae}{H:Hp}{st:ae}{n:Nat}{k:Str->List Str->List PV->Res α}{good:List Addr->Hp->α->ae->Prop}(h:Out K mg ρ H (wo st n k) good Er):∃c ks xs,st[n]?=some (.ins c ks xs)/\Out K mg ρ H (k c ks xs) good Er:=by
 unfold wo at h
 split at h
 ·rename_i c ks xs e;exact ⟨c,ks,xs,e,h⟩
 ·exact h.elim
def opI (C:Int->Int->Bool) (g:Int->Int->Int):Am
 | .int i,.int j,st=>if C i j=true then .ok (.int (g i j)) st else .stuck
 | _,_,_=>.stuck
def kF {C:Int->Int->Bool}{g:Int->Int->Int}{P:Int->Int->Prop}(hC:∀i j,C i j=true->P i j):fI K mg (rI P λi j=>.int (g i j)) (opI C g):=by
 intro ρ H st x y v w Q E s rx ry h
 cases x with
 | int i =>
  cases y with
  | int j =>
   cases rx;cases ry
   obtain ⟨c,h⟩:=Out.ifp h
   exact ⟨i,j,rfl,rfl,hC i j c,h.now s _ rfl⟩
  | _=>exact h.elim
 | _=>exact h.elim
abbrev c0:Int->Int->Bool:=λ_ _=>true
def xt {g:Int->Int->V}{f:Value->Value->Sem Value}(h:bf X f (iK g)):bf X f (rI (λ_ _=>True) g):=λpins s U H x y v u Q I rx ry ⟨i,j,h1,h2,_,q⟩=>h pins s U H x y v u Q I rx ry ⟨i,j,h1,h2,q⟩
abbrev wa:=opI c0 λi j=>i-j
abbrev gR:Int->Int->Bool:=λi j=>(decide (-(2 ^ 64)<i)&&decide (i<2 ^ 64))||(decide (-(2 ^ 64)<j)&&decide (j<2 ^ 64))
abbrev D3:=opI gR λi j=>i*j
abbrev dD:Int->Int->Bool:=λi j=>decide (0<=j)&&decide (j<=1000000)&&decide (i.natAbs<2 ^ 64)
abbrev gm:=opI dD λi j=>i ^ j.toNat
abbrev xv:Int->Int->Bool:=λ_ j=>decide (j≠0)
def jc (i j:Int):Int:=if 0<j then i%j else i.fmod j
abbrev zY:=opI xv jc
abbrev xw:Int->Int->Bool:=λ_ j=>decide (j≠0)&&decide (j.natAbs<2 ^ 200)
def jH (i j:Int):Int:=if 0<j then i/j else i.fdiv j
abbrev yG:=opI xw jH
theorem N3 (i j:Int):jc i j=i.fmod j:=by
 unfold jc;split
 ·rename_i h;rw [Int.fmod_eq_emod_of_nonneg _ (by omega)]
 ·rfl
def N4 (i j:Int):jH i j=i.fdiv j:=by
 unfold jH;split
 ·rename_i h;rw [Int.fdiv_eq_ediv_of_nonneg _ (by omega)]
 ·rfl
def zaO:cP X .Sub wa:=⟨_,xt KS,kF λ_ _ _=>trivial⟩
def N5:cP X .Mult D3:=⟨_,KU,kF λi j h=>by simpa [gR,nF] using h⟩
def zbo:cP X .Pow gm:=⟨_,KY,kF λi j h=>by simp [dD] at h;exact ⟨h.1.1,h.1.2,h.2⟩⟩
def yr:cP X .Mod zY:=⟨_,KW,by
 have h:(λi j=>V.int (i.fmod j))=λi j=>V.int (jc i j):=by funext i j;rw [N3]
 rw [h];exact kF λi j h=>by simpa [xv] using h⟩
theorem N6 {y:Int}(h:y.natAbs<2 ^ 200):y.natAbs.log2<9000:=by
 by_cases h0:y.natAbs=0
 ·rw [h0];decide
 ·have:=(Nat.log2_lt h0).mpr h
  omega
def N8:bf X (binaryOp .FloorDiv) (rI (λ_ j=>j≠0/\j.natAbs<2 ^ 200) λi j=>.int (i.fdiv j)):=L2.opI λ_ _ _ _ _ _ _ hc q=>PyProof.Rows.floordiv_int hc.1 q (.inl (PyProof.noPylong_of_log2 (N6 hc.2)))
def jy:cP X .FloorDiv yG:=⟨_,N8,by
 have h:(λi j=>V.int (i.fdiv j))=λi j=>V.int (jH i j):=by funext i j;rw [N4]
 rw [h];exact kF λi j h=>by simpa [xw] using h⟩
def qj:PV->Mo PV
 | .int i,st=>.ok (.int (-i)) st
 | _,_=>.stuck
def N9:vb X .USub qj:=⟨_,K7,by
 intro ρ H st x v Q E s rx h
 cases x with
 | int i=>cases rx;exact ⟨i,rfl,Out.now (x:=PV.int (-i)) h s _ rfl⟩
 | _=>exact h.elim⟩
def zT:Am
 | .int i,.int j,st=>.ok (.int (i+j)) st
 | .str x,.str y,st=>if x.length+y.length<=lim then .ok (.str (x++y)) st else .stuck
 | .tup xs,.tup ys,st=>if xs.length+ys.length<=lim then .ok (.tup (xs++ys)) st else .stuck
 | .ref n,.ref m,st=>yx st n λxs=>yx st m λys=>if xs.length+ys.length<=lim then .ok (.ref st.length) (st++[.lst (xs++ys)]) else .stuck
 | _,_,_=>.stuck
def N_ (K:Frag):R2:=λx y H Q=>∃a b ys,x=.ref a/\y=.ref b/\a5 K H a []/\a5 K H b ys/\Q (.ref b) H
def Oa:bf X (binaryOp .Add) (N_ X.K):=by
 intro pins s U H x y v u Q I rx ry h
 obtain ⟨a,b,ys,rfl,rfl,h1,h2,q⟩:=h
 cases rx;cases ry
 obtain ⟨i1,r1,p1,_⟩:=I.tuple h1
 obtain ⟨i2,r2,p2,_⟩:=I.tuple h2
 cases r1
 exact HT.cat_tup0 p1 p2 ⟨.ref b,H,I,rfl,q⟩
def yp:cP X .Add zT:=⟨_,KR.or (Lf.or (Oa.or (Mc.or MD))),by
 intro ρ H st x y v w Q E s rx ry h
 cases x with
 | int i =>
  cases y with
  | int j=>cases rx;cases ry;exact .inl ⟨i,j,rfl,rfl,Out.now (x:=PV.int (i+j)) h s _ rfl⟩
  | _=>exact h.elim
 | str i =>
  cases y with
  | str j =>
   cases rx;cases ry
   obtain ⟨c,h⟩:=Out.ifp h
   exact .inr (.inl ⟨i,j,rfl,rfl,jn c,h.now s _ rfl⟩)
  | _=>exact h.elim
 | tup xs =>
  cases y with
  | tup ys =>
   obtain ⟨p,vs,rfl,h1,h2⟩:=rx
   obtain ⟨q,ws,rfl,h3,h4⟩:=ry
   obtain ⟨c,h⟩:=Out.ifp h
   cases xs with
   | nil =>
    cases h2
    exact .inr (.inr (.inl ⟨p,q,ws,rfl,rfl,h1,h3,h.now s _ ⟨q,ws,rfl,h3,h4⟩⟩))
   | cons x0 qk =>
    refine .inr (.inr (.inr (.inl ⟨p,q,vs,ws,rfl,rfl,h1,h3,?_,?_,λe=>?_,λ_ l hl=>?_⟩)))
    ·obtain ⟨v0,r0,e0,_⟩:=h2;rw [e0];simp
    ·rw [<-h2.len,<-h4.len];exact jn c
    ·subst e
     have:ys=[]:=by have:=h4.len;simpa using this
     subst this
     exact h.now s _ ⟨p,vs,rfl,h1,by simpa using h2⟩
    ·exact h ρ _ (Ext.new hl) (s.new hl) _ (R.tup_of (h2.append h4) hl)
  | _=>exact h.elim
 | ref n =>
  cases y with
  | ref m =>
   obtain ⟨p,rfl,hp⟩:=rx
   obtain ⟨q,rfl,hq⟩:=ry
   obtain ⟨xs,e1,h⟩:=jK h
   obtain ⟨ys,e2,h⟩:=jK h
   obtain ⟨c,h⟩:=Out.ifp h
   obtain ⟨vs,h1,h2⟩:=s.addr e1 hp
   obtain ⟨ws,h3,h4⟩:=s.addr e2 hq
   exact .inr (.inr (.inr (.inr ⟨p,q,vs,ws,rfl,rfl,h1,h3,by rw [<-h2.len,<-h4.len];exact jn c,λl hl=>Out.newList h s (h2.append h4) hl⟩)))
  | _=>exact h.elim
 | _=>exact h.elim⟩
def sV (g:Int->Int->Bool):Am
 | .int i,.int j,st=>.ok (.bl (g i j)) st
 | _,_,_=>.stuck
def D4 {g:Int->Int->Bool}:fI K mg (iK λi j=>.bl (g i j)) (sV g):=by
 intro ρ H st x y v w Q E s rx ry h
 cases x with
 | int i =>
  cases y with
  | int j=>cases rx;cases ry;exact ⟨i,j,rfl,rfl,Out.now (x:=PV.bl (g i j)) h s _ rfl⟩
  | _=>exact h.elim
 | _=>exact h.elim
abbrev wR:=sV λi j=>decide (i<j)
abbrev iQ:=sV λi j=>decide (j<i)
def zb9:b3 X .Lt wR:=⟨_,K8,D4⟩
def zdH:b3 X .Gt iQ:=⟨_,K9,D4⟩
def dj:PV->Bool
 | .non=>true
 | _=>false
def D5:Am
 | x,.non,st=>.ok (.bl (dj x)) st
 | _,_,_=>.stuck
def D6:Am
 | x,.non,st=>.ok (.bl (!dj x)) st
 | _,_,_=>.stuck
def D7 {ρ:Ae}{H:Hp}{x:PV}{v:V}(r:R K mg ρ H x v):decide (v=.non)=dj x:=by
 cases x with
 | non=>cases r;rfl
 | bl _=>cases r;rfl
 | int _=>cases r;rfl
 | str _=>cases r;rfl
 | ty _=>cases r;rfl
 | tup _=>obtain ⟨_,_,rfl,_⟩:=r;rfl
 | frl _=>obtain ⟨_,_,rfl,_⟩:=r;rfl
 | ref _=>obtain ⟨_,rfl,_⟩:=r;rfl
 | fn _=>obtain ⟨_,rfl,_⟩:=r;rfl
 | kd _ _=>obtain ⟨_,_,_,rfl,_⟩:=r;rfl
 | exo _ _ _=>obtain ⟨_,_,_,_,rfl,_⟩:=r;rfl
def Ob:b3 X .Is D5:=⟨_,La,by
 intro ρ H st x y v w Q E s rx ry h
 cases y with
 | non=>cases ry;exact ⟨rfl,by rw [D7 rx];exact Out.now (x:=PV.bl (dj x)) h s _ rfl⟩
 | _=>exact h.elim⟩
def Oc:b3 X .IsNot D6:=⟨_,Lb,by
 intro ρ H st x y v w Q E s rx ry h
 cases y with
 | non=>cases ry;exact ⟨rfl,by rw [D7 rx];exact Out.now (x:=PV.bl (!dj x)) h s _ rfl⟩
 | _=>exact h.elim⟩
def xx {ρ:Ae}{H:Hp}{xs:An}{vs:List V}{i:Int}{x:PV}(r:Rs K mg ρ H xs vs) (h:cY xs i=some x):∃v,cY vs i=some v/\R K mg ρ H x v:=by
 unfold cY at h ⊢
 rw [<-r.len]
 cases hj:ko xs.length i with
 | none=>rw [hj] at h;cases h
 | some j =>
  rw [hj] at h
  obtain ⟨v,h1,h2⟩:=r.get (show xs[j]?=some x from h)
  exact ⟨v,h1,h2⟩
def b_:Option PV->Mo PV
 | some x,st=>.ok x st
 | none,_=>.stuck
def xA:Am
 | .tup xs,.int i,st=>b_ (cY xs i) st
 | .frl xs,.int i,st=>b_ (cY xs i) st
 | .str z,.int i,st=>if z.length<=lim then b_ ((cY z.cps.toList i).map λc=>.str ⟨#[c]⟩) st else .stuck
 | .ref n,.int i,st=>yx st n λxs=>b_ (cY xs i) st
 | _,_,_=>.stuck
def my {ρ:Ae}{H:Hp}{o:Ao}{st:ae}{good}(h:Out K mg ρ H (b_ o st) good Er):∃x,o=some x/\Out K mg ρ H (.ok x st) good Er:=by
 cases o with
 | some x=>exact ⟨x,rfl,h⟩
 | none=>exact h.elim
def Od:lA X xA:=⟨_,Mj,by
 intro ρ H st x y v w Q E s rx ry h
 cases x with
 | tup xs =>
  cases y with
  | int i =>
   cases ry
   obtain ⟨p,vs,rfl,h1,h2⟩:=rx
   obtain ⟨x,e,h⟩:=my h
   obtain ⟨v,h3,h4⟩:=xx h2 e
   exact .inr (.inl ⟨p,vs,i,v,rfl,rfl,h1,h3,h.now s _ h4⟩)
  | _=>exact h.elim
 | frl xs =>
  cases y with
  | int i =>
   cases ry
   obtain ⟨p,vs,rfl,h1,h2⟩:=rx
   obtain ⟨x,e,h⟩:=my h
   obtain ⟨v,h3,h4⟩:=xx h2 e
   exact .inl ⟨p,vs,i,v,rfl,rfl,h1.sq,h3,h.now s _ h4⟩
  | _=>exact h.elim
 | str z =>
  cases y with
  | int i =>
   cases ry;cases rx
   obtain ⟨c,h⟩:=Out.ifp h
   obtain ⟨x,e,h⟩:=my h
   cases hc:cY z.cps.toList i with
   | none=>rw [hc] at e;cases e
   | some k =>
    rw [hc] at e
    cases e
    exact .inr (.inr ⟨z,i,k,rfl,rfl,jn c,hc,h.now s _ rfl⟩)
  | _=>exact h.elim
 | ref n =>
  cases y with
  | int i =>
   cases ry
   obtain ⟨p,rfl,hp⟩:=rx
   obtain ⟨xs,e1,h⟩:=jK h
   obtain ⟨vs,h1,h2⟩:=s.addr e1 hp
   obtain ⟨x,e,h⟩:=my h
   obtain ⟨v,h3,h4⟩:=xx h2 e
   exact .inl ⟨p,vs,i,v,rfl,rfl,aZ.of h1,h3,h.now s _ h4⟩
  | _=>exact h.elim
 | _=>exact h.elim⟩
end
mutual
def plain:PV->Bool
 | .non=>true
 | .bl _=>true
 | .int _=>true
 | .str _=>true
 | .tup xs=>bK xs
 | _=>false
def bK:List PV->Bool
 | []=>true
 | x::xs=>plain x&&bK xs
end
mutual
def dep:PV->Nat
 | .tup xs=>dk xs+1
 | _=>0
def dk:List PV->Nat
 | []=>0
 | x::xs=>max (dep x) (dk xs)
end
mutual
def bz:PV->PV->Bool
 | .non,.non=>true
 | .bl a,.bl b=>a==b
 | .bl a,.int b=>(if a then 1 else 0)==b
 | .int a,.bl b=>a==(if b then 1 else 0)
 | .int a,.int b=>a==b
 | .str a,.str b=>a==b
 | .tup xs,.tup ys=>d8 xs ys
 | _,_=>false
def d8:List PV->List PV->Bool
 | [],[]=>true
 | x::xs,y::ys=>bz x y&&d8 xs ys
 | _,_=>false
end
section
variable {X:Cx}{Er:XK}{K:Frag}{mg:Ab}{ρ:Ae}{pins:Ac}{U:L2.St}{H:Hp}{s:Shared}
mutual
theorem D8 (I:Inv X pins U H s):∀(x y:PV) {v:V},plain x=true->plain y=true->R X.K mg ρ H x v->R X.K mg ρ H y v->bz x y=true
 | .non,y,v,_,py,rx,ry=>by
  cases rx
  cases y with
  | non=>rfl
  | tup ys=>obtain ⟨_,_,e,_⟩:=ry;cases e
  | bl _=>cases ry
  | int _=>cases ry
  | str _=>cases ry
  | _=>cases py
 | .bl a,y,v,_,py,rx,ry=>by
  cases rx
  cases y with
  | bl b=>cases ry;simp [bz]
  | tup ys=>obtain ⟨_,_,e,_⟩:=ry;cases e
  | non=>cases ry
  | int _=>cases ry
  | str _=>cases ry
  | _=>cases py
 | .int a,y,v,_,py,rx,ry=>by
  cases rx
  cases y with
  | int b=>cases ry;simp [bz]
  | tup ys=>obtain ⟨_,_,e,_⟩:=ry;cases e
  | non=>cases ry
  | bl _=>cases ry
  | str _=>cases ry
  | _=>cases py
 | .str a,y,v,_,py,rx,ry=>by
  cases rx
  cases y with
  | str b=>cases ry;simp [bz]
  | tup ys=>obtain ⟨_,_,e,_⟩:=ry;cases e
  | non=>cases ry
  | bl _=>cases ry
  | int _=>cases ry
  | _=>cases py
 | .tup xs,y,v,px,py,rx,ry=>by
  obtain ⟨a,vs,rfl,h1,h2⟩:=rx
  cases y with
  | tup ys =>
   obtain ⟨b,ws,e,h3,h4⟩:=ry
   cases e
   have:=I.tuple_inj h1 h3
   subst this
   exact lB I xs ys px py h2 h4
  | non=>cases ry
  | bl _=>cases ry
  | int _=>cases ry
  | str _=>cases ry
  | _=>cases py
 | .ty _,_,_,px,_,_,_=>by cases px
 | .frl _,_,_,px,_,_,_=>by cases px
 | .ref _,_,_,px,_,_,_=>by cases px
 | .fn _,_,_,px,_,_,_=>by cases px
 | .kd _ _,_,_,px,_,_,_=>by cases px
 | .exo _ _ _,_,_,px,_,_,_=>by cases px
theorem lB (I:Inv X pins U H s):∀(xs ys:An) {vs:List V},bK xs=true->bK ys=true->Rs X.K mg ρ H xs vs->Rs X.K mg ρ H ys vs->d8 xs ys=true
 | [],ys,vs,_,py,rx,ry=>by
  cases rx
  cases ys with
  | nil=>rfl
  | cons y ys=>obtain ⟨_,_,e,_⟩:=ry;cases e
 | x::xs,ys,vs,px,py,rx,ry=>by
  obtain ⟨v,r,rfl,h1,h2⟩:=rx
  cases ys with
  | nil=>cases ry
  | cons y ys =>
   obtain ⟨v',r',e,h3,h4⟩:=ry
   cases e
   simp only [bK,w9] at px py
   simp only [d8,w9]
   exact ⟨D8 I x y px.1 py.1 h1 h3,lB I xs ys px.2 py.2 h2 h4⟩
end
def fJ (xs ys:An) (j:Nat):Bool:=match xs[j]?,ys[j]? with
 | some x,some y=>bz x y
 | _,_=>true
theorem D9:∀(xs ys:An),((List.range (min xs.length ys.length)).all (fJ xs ys)&&xs.length==ys.length)=d8 xs ys
 | [],[]=>rfl
 | [],y::ys=>by simp [d8]
 | x::xs,[]=>by simp [d8]
 | x::xs,y::ys=>by
  have ih:=D9 xs ys
  have e1:min (x::xs).length (y::ys).length=min xs.length ys.length+1:=by simp only [jt];omega
  have e2:((x::xs).length==(y::ys).length)=(xs.length==ys.length):=by
   rw [Bool.eq_iff_iff];simp
  rw [e1,e2,List.range_succ_eq_map,List.all_cons,List.all_map]
  have e3:(fJ (x::xs) (y::ys)∘Nat.succ)=fJ xs ys:=by
   funext j
   simp [fJ]
  rw [e3,Bool.and_assoc,ih]
  simp [d8,fJ]
theorem xB:∀{xs:An}{i:Nat}{x:PV},xs[i]?=some x->dep x<=dk xs
 | [],_,_,e=>by simp at e
 | y::xs,0,x,e=>by simp at e;subst e;simp only [dk];omega
 | y::xs,i+1,x,e=>by
  simp at e
  have:=xB e
  simp only [dk];omega
theorem sW:∀{xs:An}{i:Nat}{x:PV},bK xs=true->xs[i]?=some x->plain x=true
 | [],_,_,_,e=>by simp at e
 | y::xs,0,x,p,e=>by simp at e;subst e;simp only [bK,w9] at p;exact p.1
 | y::xs,i+1,x,p,e=>by
  simp at e
  simp only [bK,w9] at p
  exact sW p.2 e
def sX (A:Around):A.in1.units=A.units+1:=rfl
theorem xC (I:Inv X pins U H s):∀(n:Nat) (x y:PV) {v w:V}{u u':Value}(A:Around),dep x<=n->plain x=true->plain y=true->R X.K mg ρ H x v->R X.K mg ρ H y w->RelV v u->RelV w u'->A.units+n<cLine ->
  SeqAt.EqAt A s u u' (bz x y)/\SeqAt.RcAt A s u u' (bz x y)/\SeqAt.RcNeAt A s u u' (!bz x y):=by
 intro n
 induction n with
 | zero =>
  intro x y v w u u' A hd px py rx ry rv rw hu
  cases x with
  | tup xs=>simp only [dep] at hd;omega
  | non =>
   cases rx;cases rv
   cases y with
   | non=>cases ry;cases rw;exact ⟨.same _,.none_none,.none_none⟩
   | bl b=>cases ry;cases rw;exact ⟨.none_bool b,.none_bool b,.none_bool b⟩
   | int b=>cases ry;obtain ⟨t,rfl⟩:=rw;exact ⟨.none_int b t,.none_int b t,.none_int b t⟩
   | str b=>cases ry;obtain ⟨t,rfl⟩:=rw;exact ⟨.none_str b t,.none_str b t,.none_str b t⟩
   | tup ys =>
    obtain ⟨p,ws,rfl,h1,h2⟩:=ry
    cases rw
    obtain ⟨its,_,pl,_⟩:=I.tuple h1
    exact ⟨.none_tuple pl (by omega),.none_tuple pl (by omega),.none_tuple pl (by omega)⟩
   | _=>cases py
  | bl a =>
   cases rx;cases rv
   cases y with
   | non=>cases ry;cases rw;exact ⟨.bool_none a,.bool_none a,.bool_none a⟩
   | bl b=>cases ry;cases rw;exact ⟨.bool_bool a b,.bool_bool a b,.bool_bool a b⟩
   | int b=>cases ry;obtain ⟨t,rfl⟩:=rw;exact ⟨.bool_int a b t,.bool_int a b t,.bool_int a b t⟩
   | str b=>cases ry;obtain ⟨t,rfl⟩:=rw;exact ⟨.bool_str a b t,.bool_str a b t,.bool_str a b t⟩
   | tup ys =>
    obtain ⟨p,ws,rfl,h1,h2⟩:=ry
    cases rw
    obtain ⟨its,_,pl,_⟩:=I.tuple h1
    exact ⟨.bool_tuple a pl (by omega),.bool_tuple a pl (by omega),.bool_tuple a pl (by omega)⟩
   | _=>cases py
  | int a =>
   cases rx;obtain ⟨t0,rfl⟩:=rv
   cases y with
   | non=>cases ry;cases rw;exact ⟨.int_none a t0,.int_none a t0,.int_none a t0⟩
   | bl b=>cases ry;cases rw;exact ⟨.int_bool a t0 b,.int_bool a t0 b,.int_bool a t0 b⟩
   | int b=>cases ry;obtain ⟨t,rfl⟩:=rw;exact ⟨.int_int a t0 b t,.int_int a t0 b t,.int_int a t0 b t⟩
   | str b=>cases ry;obtain ⟨t,rfl⟩:=rw;exact ⟨.int_str a t0 b t,.int_str a t0 b t,.int_str a t0 b t⟩
   | tup ys =>
    obtain ⟨p,ws,rfl,h1,h2⟩:=ry
    cases rw
    obtain ⟨its,_,pl,_⟩:=I.tuple h1
    exact ⟨.int_tuple a t0 pl (by omega),.int_tuple a t0 pl (by omega),.int_tuple a t0 pl (by omega)⟩
   | _=>cases py
  | str a =>
   cases rx;obtain ⟨t0,rfl⟩:=rv
   cases y with
   | non=>cases ry;cases rw;exact ⟨.str_none a t0,.str_none a t0,.str_none a t0⟩
   | bl b=>cases ry;cases rw;exact ⟨.str_bool a t0 b,.str_bool a t0 b,.str_bool a t0 b⟩
   | int b=>cases ry;obtain ⟨t,rfl⟩:=rw;exact ⟨.str_int a t0 b t,.str_int a t0 b t,.str_int a t0 b t⟩
   | str b=>cases ry;obtain ⟨t,rfl⟩:=rw;exact ⟨.str_str a t0 b t,.str_str a t0 b t,.str_str a t0 b t⟩
   | tup ys =>
    obtain ⟨p,ws,rfl,h1,h2⟩:=ry
    cases rw
    obtain ⟨its,_,pl,_⟩:=I.tuple h1
    exact ⟨.str_tuple a t0 pl (by omega),.str_tuple a t0 pl (by omega),.str_tuple a t0 pl (by omega)⟩
   | _=>cases py
  | _=>cases px
 | succ n ih =>
  intro x y v w u u' A hd px py rx ry rv rw hu
  cases x with
  | tup xs =>
   obtain ⟨a,vs,rfl,h1,h2⟩:=id rx
   cases rv
   obtain ⟨its,r1,p1,_⟩:=I.tuple h1
   cases y with
   | non=>cases ry;cases rw;exact ⟨.tuple_none p1 (by omega),.tuple_none p1 (by omega),.tuple_none p1 (by omega)⟩
   | bl b=>cases ry;cases rw;exact ⟨.tuple_bool b p1 (by omega),.tuple_bool b p1 (by omega),.tuple_bool b p1 (by omega)⟩
   | int b=>cases ry;obtain ⟨t,rfl⟩:=rw;exact ⟨.tuple_int b t p1 (by omega),.tuple_int b t p1 (by omega),.tuple_int b t p1 (by omega)⟩
   | str b=>cases ry;obtain ⟨t,rfl⟩:=rw;exact ⟨.tuple_str b t p1 (by omega),.tuple_str b t p1 (by omega),.tuple_str b t p1 (by omega)⟩
   | tup ys =>
    obtain ⟨b,ws,rfl,h3,h4⟩:=id ry
    cases rw
    obtain ⟨aM,r2,p2,_⟩:=I.tuple h3
    have l1:=h2.len
    have l2:=h4.len
    have l3:=r1.length
    have l4:=r2.length
    have item:∀j (g1:j<its.toArray.size) (g2:j<aM.toArray.size),SeqAt.EqAt A.in1 s its.toArray[j] aM.toArray[j] (fJ xs ys j):=λj g1 g2=>by
     have k1:j<xs.length:=by rw [l1,l3];simpa using g1
     have k2:j<ys.length:=by rw [l2,l4];simpa using g2
     obtain ⟨v1,e1,xD⟩:=h2.get (yB k1)
     obtain ⟨v2,e2,xE⟩:=h4.get (yB k2)
     obtain ⟨u1,f1,xF⟩:=r1.get e1
     obtain ⟨u2,f2,xG⟩:=r2.get e2
     have w1:its.toArray[j]=u1:=by
      obtain ⟨_,z⟩:=yl.mp f1
      simpa using z
     have w2:aM.toArray[j]=u2:=by
      obtain ⟨_,z⟩:=yl.mp f2
      simpa using z
     have ej:fJ xs ys j=bz xs[j] ys[j]:=by
      unfold fJ
      rw [yB k1,yB k2]
     rw [w1,w2,ej]
     have Wm:=xB (yB k1)
     simp only [dep] at hd
     exact (ih xs[j] ys[j] A.in1 (by omega) (sW px (yB k1)) (sW py (yB k2)) xD xE xF xG (by rw [sX];omega)).1
    have vc:((List.range (min its.toArray.size aM.toArray.size)).all (fJ xs ys)&&its.toArray.size==aM.toArray.size)=bz (.tup xs) (.tup ys):=by
     have e:=D9 xs ys
     rw [l1,l2,l3,l4] at e
     simpa [bz] using e
    have rc:SeqAt.RcAt A s (.ref a) (.ref b) (bz (.tup xs) (.tup ys)):=by
     rw [<-vc]
     exact SeqAt.RcAt.tuples (show s.heap.IsTuple a its.toArray from p1) (show s.heap.IsTuple b aM.toArray from p2) (by omega) item
    refine ⟨?_,rc,?_⟩
    ·by_cases eI:a=b
     ·subst eI
      rw [D8 I (.tup xs) (.tup ys) px py rx ry]
      exact .same _
     ·exact .of_refs eI rc
    ·rw [<-vc]
     exact SeqAt.RcNeAt.tuples (show s.heap.IsTuple a its.toArray from p1) (show s.heap.IsTuple b aM.toArray from p2) (by omega) item
   | _=>cases py
  | non=>exact ih _ y A (js _) px py rx ry rv rw (by omega)
  | bl a=>exact ih _ y A (js _) px py rx ry rv rw (by omega)
  | int a=>exact ih _ y A (js _) px py rx ry rv rw (by omega)
  | str a=>exact ih _ y A (js _) px py rx ry rv rw (by omega)
  | _=>cases px
def yi:Am:=λx y st=>if plain x=true/\plain y=true/\dep x<=150 then .ok (.bl (bz x y)) st else .stuck
def jL:Am:=λx y st=>if plain x=true/\plain y=true/\dep x<=150 then .ok (.bl (!bz x y)) st else .stuck
def D_ (K:Frag) (mg:Ab) (f:Bool->Bool):R2:=λv w H Q=>∃ρ x y,plain x=true/\plain y=true/\dep x<=150/\R K mg ρ H x v/\R K mg ρ H y w/\Q (.bl (f (bz x y))) H
theorem Oe (hu:X.A.units+200<cLine):bf X (compareOp .Eq) (D_ X.K X.mg id):=by
 intro pins s U H x y v u Q I rx ry h
 obtain ⟨ρ,a,b,pa,pb,hd,ra,rb,q⟩:=h
 exact PySem.EqBoolInt.of_rc (xC I 150 a b X.A hd pa pb ra rb rx ry (by omega)).2.1 ⟨.bl _,H,I,rfl,q⟩
def Of (hu:X.A.units+200<cLine):bf X (compareOp .NotEq) (D_ X.K X.mg not):=by
 intro pins s U H x y v u Q I rx ry h
 obtain ⟨ρ,a,b,pa,pb,hd,ra,rb,q⟩:=h
 exact PySem.EqBoolInt.of_rcne (xC I 150 a b X.A hd pa pb ra rb rx ry (by omega)).2.2 ⟨.bl _,H,I,rfl,q⟩
def yP (hu:X.A.units+200<cLine):b3 X .Eq yi:=⟨_,Oe hu,fun ρ H st x y v w Q E s rx ry h=>by
 obtain ⟨⟨p1,p2,p3⟩,h⟩:=Out.ifp h
 exact ⟨ρ,x,y,p1,p2,p3,rx,ry,h.now s _ rfl⟩⟩
def zca (hu:X.A.units+200<cLine):b3 X .NotEq jL:=⟨_,Of hu,fun ρ H st x y v w Q E s rx ry h=>by
 obtain ⟨⟨p1,p2,p3⟩,h⟩:=Out.ifp h
 exact ⟨ρ,x,y,p1,p2,p3,rx,ry,h.now s _ rfl⟩⟩
end
section
variable {X:Cx}{Er:XK}{K:Frag}{mg:Ab}{a b c e:Expr}{es:List Expr}{pos:Pos}{fa fb fc:Ai}{fs:Ah}
def Og (K:Frag) (mg:Ab) (Er:XK) (f:zj->Mo (Option Int)):TO:=λU H Q=>∃env st ρ,a_ K mg ρ H env U/\aX K mg ρ H st/\Out K mg ρ H (f env st) (λ_ H' o _=>Q o H') Er
def MO (X:Cx) (Er:XK) (e:Option Expr) (f:zj->Mo (Option Int)):Prop:=PO X e (Og X.K X.mg Er f)
def bU:zj->Mo (Option Int):=λ_ st=>.ok none st
def xH:PV->Mo (Option Int)
 | .int i,st=>.ok (some i) st
 | _,_=>.stuck
def bC (f:Ai):zj->Mo (Option Int):=λenv st=>(f env st).bind xH
def PO.weak {o:Option Expr}{t t':TO}(h:PO X o t) (w:∀U H Q,t' U H Q->t U H Q):PO X o t':=λpins s U H Q I q=>h pins s U H Q I (w U H Q q)
def zba:MO X Er none bU:=PO.weak L5 λU H Q ⟨env,st,ρ,re,rs,h⟩=>h.now rs
def zaQ (h:ME X Er e fa):MO X Er (some e) (bC fa):=PO.weak (L7 h) λU H Q ⟨env,st,ρ,re,rs,h⟩=>⟨env,st,ρ,re,rs,h.then λaf H1 x ao e1 s1 h1 v rv=>by
 cases x with
 | int i=>cases rv;exact ⟨i,rfl,Out.now (x:=some i) h1 s1⟩
 | _=>exact h1.elim⟩
def cy (xs:An) (lo hi:Option Int):An:=(xs.drop (HT.sIx xs.length 0 lo)).take (HT.sIx xs.length xs.length hi-HT.sIx xs.length 0 lo)
def mz:PV->Option Int->Option Int->Mo PV
 | .tup xs,lo,hi,st=>.ok (.tup (cy xs lo hi)) st
 | .frl xs,lo,hi,st=>.ok (.ref st.length) (st++[.lst (cy xs lo hi)])
 | .ref n,lo,hi,st=>yx st n λxs=>.ok (.ref st.length) (st++[.lst (cy xs lo hi)])
 | .str z,lo,hi,st=>if z.length<=lim then .ok (.str (Txt.slice z lo hi)) st else .stuck
 | _,_,_,_=>.stuck
def Rs.cut {ρ:Ae}{H:Hp}{xs:An}{vs:List V}(r:Rs K mg ρ H xs vs) (lo hi:Option Int):Rs K mg ρ H (cy xs lo hi) (fY vs lo hi):=by
 unfold cy fY
 rw [r.len]
 exact (r.drop _).take _
def Oh (K:Frag):V->Option Int->Option Int->Hp->VK->Prop:=λx lo hi H Q=>∃a xs,x=.ref a/\a5 K H a xs/\(HT.sIx xs.length 0 lo=0/\HT.sIx xs.length xs.length hi=xs.length)/\Q (.ref a) H
def Oi:kn X (Oh X.K):=by
 intro pins s U H x v vl vu lo hi sl Q I rx hs pl pu h
 obtain ⟨a,xs,rfl,hx,hw,q⟩:=h
 cases rx
 obtain ⟨its,r,ht,hz⟩:=I.tuple hx
 have hlen:its.toArray.size=xs.length:=by rw [yV];exact r.length.symm
 refine ⟨"tuple", _,PyProof.Rows.slot_tuple_getitem.lookup,ht.typeIs,?_⟩
 exact HT.getItem_tuple_all ht hs pl pu (by rw [hlen];exact hw) ⟨.ref a,H,I,rfl,q⟩ (by rw [hlen];exact hz)
def wb (fa:Ai) (fl fu:zj->Mo (Option Int)):Ai:=λenv st=>(fa env st).bind λx ao=>(fl env ao).bind λl ax=>(fu env ax).bind λu aS=>mz x l u aS
def zbb {lo hi:Option Expr}{fl fu:zj->Mo (Option Int)}{p2:Pos}(ha:ME X Er a fa) (hl:MO X Er lo fl) (hu:MO X Er hi fu):ME X Er (.Subscript a (.Slice lo hi none p2) pos) (wb fa fl fu) :=
 PE.weak (L9 (Ma.or (Oi.or (Ms.or MY))) ha hl hu) λU H Q ⟨env,st,ρ,re,rs,h⟩=>⟨env,st,ρ,re,rs,h.then λaf H1 x ao e1 s1 h1 v rv=>⟨env,ao,af,re.ext e1,s1,h1.then λam H2 l ax e2 s2 h2 =>
  ⟨env,ax,am,(re.ext e1).ext e2,s2,h2.then λaj H3 u aS e3 s3 h3=>by
  have rv:=R.ext e3 x (R.ext e2 x rv)
  cases x with
  | tup xs =>
   obtain ⟨p,vs,rfl,k1,k2⟩:=rv
   by_cases hw:HT.sIx vs.length 0 l=0/\HT.sIx vs.length vs.length u=vs.length
   ·refine .inr (.inl ⟨p,vs,rfl,k1,hw,Out.now (x:=PV.tup (cy xs l u)) h3 s3 _ ⟨p,vs,rfl,k1,?_⟩⟩)
    have:cy xs l u=xs:=by
     unfold cy
     rw [k2.len,hw.1,hw.2]
     simp [<-k2.len]
    rw [this];exact k2
   ·exact .inl ⟨p,vs,rfl,k1,hw,λq hq=>h3 aj _ (Ext.new hq) (s3.new hq) _ (R.tup_of (k2.cut l u) hq)⟩
  | frl xs =>
   obtain ⟨p,vs,rfl,k1,k2⟩:=rv
   exact .inr (.inr (.inl ⟨p,vs,rfl,k1.sq,λq hq=>Out.newList (xs:=cy xs l u) h3 s3 (k2.cut l u) hq⟩))
  | ref n =>
   obtain ⟨p,rfl,hp⟩:=rv
   obtain ⟨xs,k0,h3⟩:=jK h3
   obtain ⟨vs,k1,k2⟩:=s3.addr k0 hp
   exact .inr (.inr (.inl ⟨p,vs,rfl,aZ.of k1,λq hq=>Out.newList (xs:=cy xs l u) h3 s3 (k2.cut l u) hq⟩))
  | str z =>
   cases rv
   obtain ⟨k0,h3⟩:=Out.ifp h3
   exact .inr (.inr (.inr ⟨z,rfl,jn k0,h3.now s3 _ rfl⟩))
  | _=>exact h3.elim⟩⟩⟩
def xI (K:Frag) (mg:Ab) (r:List V->Hp->VK->Prop) (op:Al):Prop:=∀ρ H st xs vs (Q:VK) (E:XK),aX K mg ρ H st->Rs K mg ρ H xs vs->Out K mg ρ H (op xs st) (gV K mg Q) E->r vs H Q
def cQ (X:Cx) (f:Value) (op:Al):Prop:=∃r,bZ X f r/\xI X.K X.mg r op
def zu (op:Al) (fs:Ah):Ai:=λenv st=>(fs env st).bind op
def yW {x:Str} {id:String} {op:Al} {p:Pos} (h:cQ X (.builtin id) op) (hm:X.mg x=none) (hv:bootBuiltins x=some (.builtin id)) (ha:MA X Er (e::es) fs) (hg:Gl X x:=by rfl) (hn:x ≠ "__name__" := by decide) (eY:(x==("__debug__" : Str))=false:=by decide)
  (he:starEach (e::es) X.env=(false,eval e X.env)::starEach es X.env:=by rfl) (bX:(backTo pos (starEach es X.env)).any (·.1)=false:=by rfl):ME X Er (.Call (.Name x p) (e::es) [] pos) (zu op fs):=by
 obtain ⟨r,h1,h2⟩:=h
 exact PE.weak (LR h1 hg hm hv ha hn eY he bX) λU H Q ⟨env,st,ρ,re,rs,h⟩=>⟨env,st,ρ,re,rs,h.then λaf H1 xs ao e1 s1 k vs rv=>h2 af H1 ao xs vs Q Er s1 rv k⟩
def wc {x:Str} {T:String} {op:Al} {p:Pos} (h:cQ X (.type T) op) (hm:X.mg x=none) (hv:bootBuiltins x=some (.type T)) (ha:MA X Er (e::es) fs) (hg:Gl X x:=by rfl) (hn:x ≠ "__name__" := by decide) (eY:(x==("__debug__" : Str))=false:=by decide)
  (he:starEach (e::es) X.env=(false,eval e X.env)::starEach es X.env:=by rfl) (bX:(backTo pos (starEach es X.env)).any (·.1)=false:=by rfl):ME X Er (.Call (.Name x p) (e::es) [] pos) (zu op fs):=by
 obtain ⟨r,h1,h2⟩:=h
 exact PE.weak (LU h1 hg hm hv ha hn eY he bX) λU H Q ⟨env,st,ρ,re,rs,h⟩=>⟨env,st,ρ,re,rs,h.then λaf H1 xs ao e1 s1 k vs rv=>h2 af H1 ao xs vs Q Er s1 rv k⟩
def oz {x:Str} {n:String} (hm:X.mg x=none) (hv:bootBuiltins x=some (.type n)) (hg:Gl X x:=by rfl) (hn:x ≠ "__name__" := by decide) (hd:(x==("__debug__" : Str))=false:=by decide):ME X Er (.Name x pos) (mC (.ty n)) :=
 qi (JX (v:=.ty n) hg hm hv rfl hn hd) λ_ _=>rfl
def Rs.one {ρ:Ae}{H:Hp}{x:PV}{vs:List V}(r:Rs K mg ρ H [x] vs):∃v,vs=[v]/\R K mg ρ H x v:=by
 obtain ⟨v,r',rfl,h,h'⟩:=r
 cases h'
 exact ⟨v,rfl,h⟩
def Rs.two {ρ:Ae}{H:Hp}{x y:PV}{vs:List V}(r:Rs K mg ρ H [x,y] vs):∃v w,vs=[v,w]/\R K mg ρ H x v/\R K mg ρ H y w:=by
 obtain ⟨v,r',rfl,h,h'⟩:=r
 obtain ⟨w,rfl,h2⟩:=Rs.one h'
 exact ⟨v,w,rfl,h,h2⟩
def sY:Al
 | [.tup xs],st=>.ok (.int xs.length) st
 | [.frl xs],st=>.ok (.int xs.length) st
 | [.str z],st=>if z.length<=lim then .ok (.int z.length) st else .stuck
 | [.ref n],st=>yx st n λxs=>.ok (.int xs.length) st
 | _,_=>.stuck
def Oj:cQ X (.builtin "len") sY:=⟨_,Lj,fun ρ H st xs vs Q E s r h=>by
 match xs,r,h with
 | [.tup ys],r,h =>
  obtain ⟨v,rfl,p,ws,rfl,h1,h2⟩:=Rs.one r
  exact ⟨_,ws.length,rfl,.inr ⟨ws,h1,rfl⟩,by rw [<-h2.len];exact Out.now (x:=PV.int ys.length) h s _ rfl⟩
 | [.frl ys],r,h =>
  obtain ⟨v,rfl,p,ws,rfl,h1,h2⟩:=Rs.one r
  exact ⟨_,ws.length,rfl,.inl ⟨ws,h1.sq,rfl⟩,by rw [<-h2.len];exact Out.now (x:=PV.int ys.length) h s _ rfl⟩
 | [.str z],r,h =>
  obtain ⟨v,rfl,rfl⟩:=Rs.one r
  obtain ⟨c,h⟩:=Out.ifp h
  exact ⟨_,z.length,rfl,⟨jn c,rfl⟩,h.now s _ rfl⟩
 | [.ref n],r,h =>
  obtain ⟨v,rfl,p,rfl,hp⟩:=Rs.one r
  obtain ⟨ys,e,h⟩:=jK h
  obtain ⟨ws,h1,h2⟩:=s.addr e hp
  exact ⟨_,ws.length,rfl,.inl ⟨ws,aZ.of h1,rfl⟩,by rw [<-h2.len];exact h.now s _ rfl⟩
 | [],r,h=>exact h.elim
 | [.non],r,h=>exact h.elim
 | [.bl _],r,h=>exact h.elim
 | [.int _],r,h=>exact h.elim
 | [.ty _],r,h=>exact h.elim
 | [.fn _],r,h=>exact h.elim
 | [.kd _ _],r,h=>exact h.elim
 | [.exo _ _ _],r,h=>exact h.elim
 | x::y::r',r,h=>cases x<;>exact h.elim⟩
def qm:Al
 | [.tup xs],st=>.ok (.ref st.length) (st++[.lst xs])
 | [.frl xs],st=>.ok (.ref st.length) (st++[.lst xs])
 | [.ref n],st=>yx st n λxs=>.ok (.ref st.length) (st++[.lst xs])
 | _,_=>.stuck
def Ol:cQ X (.type "list") qm:=⟨_,Mt,fun ρ H st xs vs Q E s r h=>by
 match xs,r,h with
 | [.tup ys],r,h =>
  obtain ⟨v,rfl,p,ws,rfl,h1,h2⟩:=Rs.one r
  exact ⟨p,ws,rfl,.inr h1,λl hl=>Out.newList (xs:=ys) h s h2 hl⟩
 | [.frl ys],r,h =>
  obtain ⟨v,rfl,p,ws,rfl,h1,h2⟩:=Rs.one r
  exact ⟨p,ws,rfl,.inl h1.sq,λl hl=>Out.newList (xs:=ys) h s h2 hl⟩
 | [.ref n],r,h =>
  obtain ⟨v,rfl,p,rfl,hp⟩:=Rs.one r
  obtain ⟨ys,e,h⟩:=jK h
  obtain ⟨ws,h1,h2⟩:=s.addr e hp
  exact ⟨p,ws,rfl,.inl (aZ.of h1),λl hl=>Out.newList (xs:=ys) h s h2 hl⟩
 | [],r,h=>exact h.elim
 | [.non],r,h=>exact h.elim
 | [.bl _],r,h=>exact h.elim
 | [.int _],r,h=>exact h.elim
 | [.str _],r,h=>exact h.elim
 | [.ty _],r,h=>exact h.elim
 | [.fn _],r,h=>exact h.elim
 | [.kd _ _],r,h=>exact h.elim
 | [.exo _ _ _],r,h=>exact h.elim
 | x::y::r',r,h=>cases x<;>exact h.elim⟩
def jM:Al
 | [.tup xs],st=>.ok (.tup xs) st
 | [.frl xs],st=>.ok (.tup xs) st
 | [.ref n],st=>yx st n λxs=>.ok (.tup xs) st
 | _,_=>.stuck
def wJ:cQ X (.type "tuple") jM:=⟨_,Mu,fun ρ H st xs vs Q E s r h=>by
 match xs,r,h with
 | [.tup ys],r,h =>
  obtain ⟨v,rfl,p,ws,rfl,h1,h2⟩:=Rs.one r
  exact ⟨p,ws,rfl,.inr ⟨h1,Out.now (x:=PV.tup ys) h s _ ⟨p,ws,rfl,h1,h2⟩⟩⟩
 | [.frl ys],r,h =>
  obtain ⟨v,rfl,p,ws,rfl,h1,h2⟩:=Rs.one r
  exact ⟨p,ws,rfl,.inl ⟨h1.sq,λl hl=>h ρ _ (Ext.new hl) (s.new hl) _ (R.tup_of h2 hl)⟩⟩
 | [.ref n],r,h =>
  obtain ⟨v,rfl,p,rfl,hp⟩:=Rs.one r
  obtain ⟨ys,e,h⟩:=jK h
  obtain ⟨ws,h1,h2⟩:=s.addr e hp
  exact ⟨p,ws,rfl,.inl ⟨aZ.of h1,λl hl=>h ρ _ (Ext.new hl) (s.new hl) _ (R.tup_of h2 hl)⟩⟩
 | [],r,h=>exact h.elim
 | [.non],r,h=>exact h.elim
 | [.bl _],r,h=>exact h.elim
 | [.int _],r,h=>exact h.elim
 | [.str _],r,h=>exact h.elim
 | [.ty _],r,h=>exact h.elim
 | [.fn _],r,h=>exact h.elim
 | [.kd _ _],r,h=>exact h.elim
 | [.exo _ _ _],r,h=>exact h.elim
 | x::y::r',r,h=>cases x<;>exact h.elim⟩
def xJ (T n:String):Option Bool :=
 if T = "int" then (if n = "int" then some true else if n = "bool" \/ n = "str" \/ n = "tuple" \/ n = "dict" \/ n = "list" then some false else none)
 else if T = "bool" then (if n = "int" \/ n = "bool" then some true else if n = "str" \/ n = "tuple" \/ n = "dict" \/ n = "list" then some false else none)
 else if T = "str" then (if n = "str" then some true else if n = "int" \/ n = "bool" \/ n = "tuple" \/ n = "dict" \/ n = "list" then some false else none)
 else if T = "tuple" then (if n = "tuple" then some true else if n = "int" \/ n = "bool" \/ n = "str" \/ n = "dict" \/ n = "list" then some false else none)
 else if T = "list" then (if n = "list" then some true else if n = "int" \/ n = "bool" \/ n = "str" \/ n = "dict" \/ n = "tuple" then some false else none)
 else if T = "dict" then (if n = "dict" then some true else if n = "int" \/ n = "bool" \/ n = "str" \/ n = "list" \/ n = "tuple" then some false else none)
 else if T = "NoneType" then (if n = "int" \/ n = "bool" \/ n = "str" \/ n = "list" \/ n = "tuple" \/ n = "dict" then some false else none)
 else none
def Om (K:Frag) {T n:String}{b:Bool}(h:xJ T n=some b):PySem.W.kitOne K (.type T) (.type n)=some b:=by
 unfold xJ at h
 split at h
 ·rename_i e;subst e
  split at h
  ·rename_i e;subst e;cases h;first|rfl|kernel_rfl
  ·split at h
   ·rename_i e;cases h;rcases e with e|e|e|e|e<;>subst e<;>first|rfl|kernel_rfl
   ·cases h
 ·split at h
  ·rename_i e;subst e
   split at h
   ·rename_i e;cases h;rcases e with e|e<;>subst e<;>first|rfl|kernel_rfl
   ·split at h
    ·rename_i e;cases h;rcases e with e|e|e|e<;>subst e<;>first|rfl|kernel_rfl
    ·cases h
  ·split at h
   ·rename_i e;subst e
    split at h
    ·rename_i e;subst e;cases h;first|rfl|kernel_rfl
    ·split at h
     ·rename_i e;cases h;rcases e with e|e|e|e|e<;>subst e<;>first|rfl|kernel_rfl
     ·cases h
   ·split at h
    ·rename_i e;subst e
     split at h
     ·rename_i e;subst e;cases h;first|rfl|kernel_rfl
     ·split at h
      ·rename_i e;cases h;rcases e with e|e|e|e|e<;>subst e<;>first|rfl|kernel_rfl
      ·cases h
    ·split at h
     ·rename_i e;subst e
      split at h
      ·rename_i e;subst e;cases h;first|rfl|kernel_rfl
      ·split at h
       ·rename_i e;cases h;rcases e with e|e|e|e|e<;>subst e<;>first|rfl|kernel_rfl
       ·cases h
     ·split at h
      ·rename_i e;subst e
       split at h
       ·rename_i e;subst e;cases h;first|rfl|kernel_rfl
       ·split at h
        ·rename_i e;cases h;rcases e with e|e|e|e|e<;>subst e<;>first|rfl|kernel_rfl
        ·cases h
      ·split at h
       ·rename_i e;subst e
        split at h
        ·rename_i e;cases h;rcases e with e|e|e|e|e|e<;>subst e<;>first|rfl|kernel_rfl
        ·cases h
       ·cases h
end
def iR (K:Frag) (mg:Ab) (m:Al):Sp:=λvs H Q E=>∃xs st ρ,Rs K mg ρ H xs vs/\aX K mg ρ H st/\Out K mg ρ H (m xs st) (gV K mg Q) E
section
variable (P:Program) (w:World) (K:Frag) (mg:Ab) (base:Heap)
def a7 (x:Str) (k:Nat) (m:Al):Prop:=∃f fd ps,mg x=some (.ref f)/\keepIn K (.ref f)=true/\Binds K fd ps []/\bO P w K mg base (cZ P w) k f fd ps (iR K mg m)
def gT (c name:Str) (k:Nat) (m:Al):Prop:=∃C f fd ps,mg c=some (.ref C)/\fB K C/\Meth K C name f/\Binds K fd ps []/\bO P w K mg base (cZ P w) k f fd ps (iR K mg m)
def xK (c:Str) (k:Nat) (m:Al):Prop:=∃C f fd ps,mg c=some (.ref C)/\Mk K C f/\Binds K fd ps []/\bO P w K mg base (cZ P w) k f fd ps (iR K mg m)
end
section
variable {X:Cx}{Er:XK}{K:Frag}{mg:Ab}{a b c e o:Expr}{es:List Expr}{pos p apos:Pos}{fa fb fc fo:Ai}{fs:Ah}{k:Nat}{x:Str}{m:Al}
def zO (C:a7 X.prog X.w X.K X.mg X.base x k m) (hr:bu k X.A) (ht:iO X Er) (ha:MA X Er (e::es) fs) (hg:Gl X x:=by rfl) (eY:(x==("__debug__" : Str))=false:=by decide)
  (he:starEach (e::es) X.env=(false,eval e X.env)::starEach es X.env:=by rfl) (bX:(backTo pos (starEach es X.env)).any (·.1)=false:=by rfl):ME X Er (.Call (.Name x p) (e::es) [] pos) (zu m fs):=by
 obtain ⟨f,fd,ps,hm,hk,hb,F⟩:=C
 exact PE.weak (LL F hr hg hm hk hb .nil (xk ht) ha eY he bX) λU H Q ⟨env,st,ρ,re,rs,h⟩=>⟨env,st,ρ,re,rs,h.then λaf H1 xs ao e1 s1 k vs rv=>by
  show iR X.K X.mg m (vs++[]) H1 Q Er
  rw [List.append_nil]
  exact ⟨xs,ao,af,rv,s1,k⟩⟩
theorem oA {ρ:Ae}{H:Hp}{f:Str}:∀{ks:Ad}{xs:An}{vs:List V}{x:PV},Rs K mg ρ H xs vs->(ks.zip xs).lookup f=some x->∃v,(ks.zip vs).lookup f=some v/\R K mg ρ H x v
 | [],_,_,_,_,h=>by simp at h
 | k::ks,[],_,_,_,h=>by simp at h
 | k::ks,y::xs,_,x,r,h=>by
  obtain ⟨v,r',rfl,h1,h2⟩:=r
  simp only [List.zip_cons_cons,gd] at h ⊢
  split at h
  ·cases h;exact ⟨v,rfl,h1⟩
  ·exact oA h2 h
theorem xM {f:Str}{β:Type}:∀{ks:Ad}{vs:List β},f∉ks->(ks.zip vs).lookup f=none
 | [],_,_=>by simp
 | k::ks,[],_=>by simp
 | k::ks,v::vs,h=>by
  simp only [yz,not_or] at h
  simp only [List.zip_cons_cons,gd]
  have:(f==k)=false:=by simpa using h.1
  rw [this]
  exact xM h.2
def Oo (X:Cx) (name:Str) (k:Nat) (E:XK) (ta:TE) (t:TA):TE:=λU H Q=>ta U H λx H1=>∃a C dx fs f fd ps sp,x=.ref a/\H1 a=some (.ins C dx fs)/\fs.lookup name=none/\fB X.K C/\Meth X.K C name f/\Binds X.K fd ps []/\bO X.prog X.w X.K X.mg X.base (cZ X.prog X.w) k f fd ps sp /\
 t U H1 λvs H2=>sp (x::vs) H2 Q E
def Oq {pl:Sem Bool}{name:Str}{ta:TE}{t:TA}{E:XK}(he:PE X o ta) (hr:bu k X.A) (hx:Passes (cZ X.prog X.w) X E) (ha:PA X (e::es) t)
  (cG:starEach (e::es) X.env=(false,eval e X.env)::starEach es X.env:=by rfl) (bX:(backTo pos (starEach es X.env)).any (·.1)=false:=by rfl)
  (ht:eval (.Call (.Attribute o name apos) (e::es) [] pos) X.env=(do
   let ov <-eval o X.env
   standAt apos.atName
   let (f,first) <-holding [ov] (getMethod ov name pl)
   callWith pos f first (backTo pos (starEach (e::es) X.env)) (backToKw pos (keywordEach [] X.env))):=by rfl) :
  PE X (.Call (.Attribute o name apos) (e::es) [] pos) (Oo X name k E ta t):=by
 intro pins s U H Q I h
 refine PySem.W.methodCall_KW (pl:=pl) (aO (he pins s U H _ I h) λu s1 ⟨x,H1,I1,rx,a,C,dx,fs,f,fd,ps,sp,ex,ea,l,c,hm,hb,F,q⟩=>?_) ht
 subst ex
 obtain rfl:u=Value.ref a:=rx
 refine Lu I1 ea c hm l ?_
 refine PySem.W.callWith_K (first:=[.ref a]) (h₀:=X.base) I.ok.mod.kin hm.kp (aO (ha pos pins s1 U H1 _ I1 q) λus s2 ⟨vs,H2,I2,r,q2⟩=>⟨I2.kIn,?_⟩) cG bX
 exact CP (us:=.ref a::us) (vs:=.ref a::vs) F hr hb .nil hx I2 (.cons rfl r) (by rw [List.append_nil];exact q2)
def nL (name:Str) (tab:Str->Option (Al)) (o:PV) (st:ae) (k:Nat->(Al)->Res PV):Res PV:=match o with
 | .ref n=>wo st n λc ks _=>if name∈ks then .stuck else match tab c with
  | some m=>k n m
  | none=>.stuck
 | _=>.stuck
def iS (name:Str) (tab:Str->Option (Al)) (fo:Ai) (fs:Ah):Ai:=λenv st=>(fo env st).bind λo ao=>nL name tab o ao λn m=>(fs env ao).bind λys ax=>m (.ref n::ys) ax
def Ot {name:Str}{tab:Str->Option (Al)}{o:PV}{st:ae}{kk:Nat->(Al)->Res PV}{ρ:Ae}{H:Hp}{good}(h:Out K mg ρ H (nL name tab o st kk) good Er) :
  ∃n c ks xs m,o=.ref n/\st[n]?=some (.ins c ks xs)/\name∉ks/\tab c=some m/\Out K mg ρ H (kk n m) good Er:=by
 cases o with
 | ref n =>
  obtain ⟨c,ks,xs,e,h⟩:=D0 h
  split at h
  ·exact h.elim
  ·rename_i hn
   cases hc:tab c with
   | none=>rw [hc] at h;exact h.elim
   | some m=>rw [hc] at h;exact ⟨n,c,ks,xs,m,rfl,e,hn,hc,h⟩
 | _=>exact h.elim
def Ou {pl:Sem Bool}{name:Str}{tab:Str->Option (Al)}(hT:∀c m,tab c=some m->gT X.prog X.w X.K X.mg X.base c name k m) (ho:ME X Er o fo) (hr:bu k X.A) (ht:iO X Er) (ha:MA X Er (e::es) fs)
  (cG:starEach (e::es) X.env=(false,eval e X.env)::starEach es X.env:=by rfl) (bX:(backTo pos (starEach es X.env)).any (·.1)=false:=by rfl)
  (Ov:eval (.Call (.Attribute o name apos) (e::es) [] pos) X.env=(do
   let ov <-eval o X.env
   standAt apos.atName
   let (f,first) <-holding [ov] (getMethod ov name pl)
   callWith pos f first (backTo pos (starEach (e::es) X.env)) (backToKw pos (keywordEach [] X.env))):=by rfl) :
  ME X Er (.Call (.Attribute o name apos) (e::es) [] pos) (iS name tab fo fs) :=
 PE.weak (Oq (pl:=pl) ho hr (xk ht) ha cG bX Ov) λU H Q ⟨env,st,ρ,re,rs,h⟩=>⟨env,st,ρ,re,rs,h.then λaf H1 x ao e1 s1 h1 v rv=>by
  obtain ⟨n,c,ks,xs,m,rfl,hn,hk,hc,h1⟩:=Ot h1
  obtain ⟨C,f,fd,ps,hC,cl,hm,hb,F⟩:=hT c m hc
  obtain ⟨p,rfl,hp⟩:=rv
  obtain ⟨C',dx,vs,hC',hH,hR,hl⟩:=s1.addr hn hp
  rw [hC] at hC'
  cases hC'
  exact ⟨p,C,dx,_,f,fd,ps,_,rfl,hH,xM hk,cl,hm,hb,F,env,ao,af,re.ext e1,s1,Out.then h1 λam H2 ys ax e2 s2 h2 ws rws=>⟨.ref n::ys,ax,am,⟨_,_,rfl,⟨p,rfl,e2.get hp⟩,rws⟩,s2,h2⟩⟩⟩
def lC (c:Str) (m:Al) (ys:An):Mo PV:=λst=>(m (.ref st.length::ys) (st++[.ins c [] []])).bind λr ax=>if dj r=true then .ok (.ref st.length) ax else .stuck
def Ow {x:PV}(h:dj x=true):x=.non:=by cases x<;>first|rfl|cases h
def Ox {cn:Str}{C f:Addr}{ρ:Ae}{H:Hp}{st:ae}{ys:An}{vs:List V}{Q:VK}(hC:mg cn=some (.ref C)) (s:aX K mg ρ H st) (r:Rs K mg ρ H ys vs) (h:Out K mg ρ H (lC cn m ys st) (gV K mg Q) Er) :
  ∀x dx,H x=none->H dx=none->dx≠x->iR K mg m (.ref x::vs) (upd (upd H dx (.own x)) x (.ins C dx [])) (λv H2=>v=.non/\Q (.ref x) H2) Er:=λx dx hx sZ ne=>by
 have tf:upd H dx (.own x) x=none:=by rw [yE (ja ne)];exact hx
 have s1:=s.new (o:=.own x) sZ
 have e1:Ext ρ H ρ (upd H dx (.own x)):=Ext.new sZ
 have e2:Ext ρ H (ρ++[x]) (upd (upd H dx (.own x)) x (.ins C dx [])):=e1.trans (Ext.push tf)
 have s2:aX K mg (ρ++[x]) (upd (upd H dx (.own x)) x (.ins C dx [])) (st++[.ins cn [] []]):=s1.push tf ⟨C,dx,[],hC,jh,rfl,rfl⟩
 have gx:(ρ++[x])[st.length]?=some x:=by rw [<-s.len];simp
 refine ⟨.ref st.length::ys,_,ρ++[x],⟨_,_,rfl,⟨x,rfl,gx⟩,Rs.ext e2 ys r⟩,s2,Out.then (Out.ext h e2) λaj H3 r3 aS e3 s3 h3 v rv=>?_⟩
 obtain ⟨hn,h3⟩:=Out.ifp h3
 obtain rfl:=Ow hn
 exact ⟨rv,h3.now s3 _ ⟨x,rfl,e3.get gx⟩⟩
def Oy {cn:Str} (C:xK X.prog X.w X.K X.mg X.base cn k m) (hr:bu (k+1) X.A) (ht:iO X Er) (ha:MA X Er (e::es) fs) (hg:Gl X cn:=by rfl) (eY:(cn==("__debug__" : Str))=false:=by decide)
  (he:starEach (e::es) X.env=(false,eval e X.env)::starEach es X.env:=by rfl) (bX:(backTo pos (starEach es X.env)).any (·.1)=false:=by rfl):ME X Er (.Call (.Name cn p) (e::es) [] pos) (zu (lC cn m) fs):=by
 obtain ⟨C,f,fd,ps,hm,M,hb,F⟩:=C
 exact PE.weak (LO M F hr hg hm hb .nil (xk ht) ha eY he bX) λU H Q ⟨env,st,ρ,re,rs,h⟩=>⟨env,st,ρ,re,rs,h.then λaf H1 xs ao e1 s1 k vs rv x dx hx sZ ne=>by
  rw [List.append_nil]
  exact Ox (f:=f) hm s1 rv k x dx hx sZ ne⟩
def cS (f:Str) (ins exc:Str->Bool):PV->Mo PV
 | .ref n,st=>wo st n λc ks xs=>if ins c=true then b_ ((ks.zip xs).lookup f) st else .stuck
 | .exo c ks xs,st=>if exc c=true then b_ ((ks.zip xs).lookup f) st else .stuck
 | _,_=>.stuck
structure FldF (K:Frag) (mg:Ab) (f:Str) (ins exc:Str->Bool):Prop where
 i:∀c,ins c=true->∃C,mg c=some (.ref C)/\fB K C/\dr K C f
 x:∀c,exc c=true->∃C,mg c=some (.ref C)/\kf K C/\hasDictIn K C=true/\findIn K (.ref C) f=some none
def Oz (K:Frag) (ta:TE) (f:Str):TE:=λU H Q=>ta U H λx H1=>(∃a C dx fs v,x=.ref a/\H1 a=some (.ins C dx fs)/\fB K C/\dr K C f/\fs.lookup f=some v/\Q v H1) \/
 ∃a C d fs v,x=.ref a/\H1 a=some (lx C (some d) a)/\H1 d=some (.xd fs)/\kf K C/\hasDictIn K C=true/\findIn K (.ref C) f=some none/\fs.lookup f=some v/\Q v H1
def OA {f:Str}{ta:TE}(he:PE X e ta) (hb:attributeBase e f X.env (eval e X.env)=eval e X.env):PE X (.Attribute e f pos) (Oz X.K ta f):=by
 intro pins s U H Q I h
 refine Lw hb (aO (he pins s U H _ I h) λu s1 ⟨x,H1,I1,rx,h1⟩=>?_)
 rcases h1 with ⟨a,C,dx,fs,v,ex,ea,c,n,l,q⟩|⟨a,C,dx,fs,v,ex,ea,ed,g,hh,no,l,q⟩
 ·subst ex
  obtain rfl:u=Value.ref a:=rx
  exact Ls I1 ea c n l λu' s2 I2 ru=>⟨v,H1,I2,ru,q⟩
 ·subst ex
  obtain rfl:u=Value.ref a:=rx
  exact NB I1 ea ed g hh no l λu' s2 I2 ru=>⟨v,H1,I2,ru,q⟩
def OB {f:Str}{ins exc:Str->Bool}(F:FldF X.K X.mg f ins exc) (he:ME X Er e fa) (hb:attributeBase e f X.env (eval e X.env)=eval e X.env:=by rfl):ME X Er (.Attribute e f pos) (wn (cS f ins exc) fa) :=
 PE.weak (OA he hb) λU H Q ⟨env,st,ρ,re,rs,h⟩=>⟨env,st,ρ,re,rs,h.then λaf H1 x ao e1 s1 h1 v rv=>by
  cases x with
  | ref n =>
   obtain ⟨c,ks,xs,hn,h1⟩:=D0 h1
   obtain ⟨hc,h1⟩:=Out.ifp h1
   obtain ⟨y,hy,h1⟩:=my h1
   obtain ⟨p,rfl,hp⟩:=rv
   obtain ⟨C',dx,vs,hC',hH,hR,hl⟩:=s1.addr hn hp
   obtain ⟨C,hC,cl,na⟩:=F.i c hc
   rw [hC] at hC'
   cases hC'
   obtain ⟨v,hv,rv⟩:=oA hR hy
   exact .inl ⟨p,_,dx,_,v,rfl,hH,cl,na,hv,h1.now s1 _ rv⟩
  | exo c ks xs =>
   obtain ⟨hc,h1⟩:=Out.ifp h1
   obtain ⟨y,hy,h1⟩:=my h1
   obtain ⟨a,C',d,vs,rfl,hC',hH,hd,hR,hl⟩:=rv
   obtain ⟨C,hC,g,hh,no⟩:=F.x c hc
   rw [hC] at hC'
   cases hC'
   obtain ⟨v,hv,rv⟩:=oA hR hy
   exact .inr ⟨a,_,d,_,v,rfl,hH,hd,g,hh,no,hv,h1.now s1 _ rv⟩
  | _=>exact h1.elim⟩
def mD:Option SO->Option (String ⊕ (Bool×Str))
 | some (.lst _)=>some (.inl "list")
 | some (.dic _ _)=>some (.inl "dict")
 | some (.ins c _ _)=>some (.inr (false,c))
 | some (.fdi _ _)=>none
 | some (.dit _ _)=>none
 | none=>none
def lD (st:ae):PV->Option (String ⊕ (Bool×Str))
 | .non=>some (.inl "NoneType")
 | .bl _=>some (.inl "bool")
 | .int _=>some (.inl "int")
 | .str _=>some (.inl "str")
 | .tup _=>some (.inl "tuple")
 | .ref n=>mD st[n]?
 | .exo c _ _=>some (.inr (true,c))
 | _=>none
def lE (o:Option Bool):Mo PV:=λst=>match o with
 | some b=>.ok (.bl b) st
 | none=>.stuck
def tj {ρ:Ae}{H:Hp}{o:Option Bool}{st:ae}{good}(h:Out K mg ρ H (lE o st) good Er):∃b,o=some b/\Out K mg ρ H (.ok (.bl b) st) good Er:=by
 cases o with
 | some x=>exact ⟨x,rfl,h⟩
 | none=>exact h.elim
structure IsT where
 isx:Str->Bool
 sub:Str->Str->Option Bool
 subT:Str->String->Option Bool
 tyC:String->Str->Option Bool
def vd (t:IsT) (st:ae):PV->Option (String ⊕ (Bool×Str))->Mo PV
 | .ty n,some (.inl T),st=>lE (xJ T n) st
 | .ty n,some (.inr (f,c)),st=>if t.isx c=f then lE (t.subT c n) st else .stuck
 | .fn B,some (.inl T),st=>lE (t.tyC T B) st
 | .fn B,some (.inr (f,c)),st=>if t.isx c=f then lE (t.sub c B) st else .stuck
 | _,_,_=>.stuck
def je (t:IsT):Al
 | [x,y],st=>vd t st y (lD st x) st
 | _,_=>.stuck
structure vf (K:Frag) (C:Addr):Prop where
 cl:fB K C
 ha:findIn K (.ref C) "__class__" = some (some (.builtin "object.__class__"))
 hn:specialIn K (.builtin "object.__class__") "__get__" = some (some (.builtin "getset_descriptor.__get__"))
 tk:takesIn K (.builtin "object.__class__")=some true
 hm:mroIn K C (.type "object")=some true
structure IsF (K:Frag) (mg:Ab) (t:IsT):Prop where
 s:∀c B b,t.sub c B=some b->∃C D,mg c=some (.ref C)/\mg B=some (.ref D)/\kitOne K (.ref C) (.ref D)=some b
 tt:∀c n b,t.subT c n=some b->∃C,mg c=some (.ref C)/\kitOne K (.ref C) (.type n)=some b
 u:∀T B b,t.tyC T B=some b->∃D,mg B=some (.ref D)/\kitOne K (.type T) (.ref D)=some b
 x:∀c C,t.isx c=true->mg c=some (.ref C)->((∃B b,t.sub c B=some b)\/∃n b,t.subT c n=some b)->nK K C
 i:∀c C,t.isx c=false->mg c=some (.ref C)->((∃B b,t.sub c B=some b)\/∃n b,t.subT c n=some b)->vf K C
inductive mE (K:Frag) (H:Hp):V->Value->Prop where
 | of {v:V} {t:Value} (h:dC K H v t):mE K H v t
 | tup {a:Addr} {vs:List V} (h:a5 K H a vs):mE K H (.ref a) (.type "tuple")
 | exc {a C d:Addr} {fs:List (Str×V)} (ha:H a=some (lx C (some d) a)) (hd:H d=some (.xd fs)) (k:nK K C):mE K H (.ref a) (.ref C)
def OC {pins:Ac}{U:L2.St}{H:Hp}{s:Shared}{v:V}{u t c:Value}{b:Bool}{Q:Aa}{A:Around}{E:Aa}(I:Inv X pins U H s) (r:RelV v u) (ty:mE X.K H v t) (e:kitOne X.K t c=some b) (h:∀tk,Q (.bool b) { s with toks:=tk }) :
  wpAny (model X.prog X.w) A (call (.builtin "isinstance") [u,c]) Q E s:=by
 cases ty with
 | of ty=>exact Ly I r ty e h
 | @tup a vs hq =>
  obtain rfl:u=Value.ref a:=r
  obtain ⟨its,_,p,_⟩:=I.tuple hq
  obtain ⟨o,h1,h2,_⟩:=p
  exact PySem.W.kia_one PySem.W.kitx_tuple I.kIn ⟨o,h1,h2⟩ e (λz=>nomatch z) h
 | @exc a C d fs ha hd k =>
  obtain rfl:u=Value.ref a:=r
  exact NC I ha hd k e h
def OD:bZ X (.builtin "isinstance") (λxs H Q=>∃v w t c b,xs=[v,w]/\mE X.K H v t/\RelV w c/\(∀c',RelV w c'->c'=c)/\kitOne X.K t c=some b/\Q (.bl b) H):=by
 intro pins s U H xs us Q I r h
 obtain ⟨v,w,t,c,b,rfl,ty,rw,un,e,q⟩:=h
 obtain ⟨u,w',rfl,ru,dG⟩:=vG r
 obtain rfl:=un w' dG
 exact OC I ru ty e λtk=>⟨.bl b,H,I.tok _,rfl,q⟩
def Ea {ρ:Ae}{H:Hp}{st:ae}{x:PV}{v:V}{T:String}(s:aX K mg ρ H st) (r:R K mg ρ H x v) (h:lD st x=some (.inl T)):mE K H v (.type T):=by
 cases x with
 | non=>cases h;cases r;exact .of .non
 | bl b=>cases h;cases r;exact .of (.bl b)
 | int i=>cases h;cases r;exact .of (.int i)
 | str z=>cases h;cases r;exact .of (.str z)
 | tup xs=>cases h;obtain ⟨a,vs,rfl,h1,_⟩:=r;exact .tup h1
 | frl xs=>cases h
 | ref n =>
  obtain ⟨a,rfl,ha⟩:=r
  have h:mD st[n]?=some (.inl T):=h
  cases e:st[n]? with
  | none=>rw [e] at h;cases h
  | some so =>
   rw [e] at h
   cases so with
   | lst xs=>cases h;obtain ⟨vs,h1,_⟩:=s.addr e ha;exact .of (.lst h1)
   | dic ks xs=>cases h;obtain ⟨vs,h1,_⟩:=s.addr e ha;exact .of (.dK h1)
   | ins c ks xs=>cases h
   | fdi ks xs=>cases h
   | dit ks xs=>cases h
 | ty _=>cases h
 | fn _=>cases h
 | kd _ _=>cases h
 | exo _ _ _=>cases h
def Eb {ρ:Ae}{H:Hp}{st:ae}{x:PV}{v:V}{f:Bool}{c:Str}(hx:∀C,f=true->mg c=some (.ref C)->nK K C) (hi:∀C,f=false->mg c=some (.ref C)->vf K C) (s:aX K mg ρ H st) (r:R K mg ρ H x v) (h:lD st x=some (.inr (f,c))):∃C,mg c=some (.ref C)/\mE K H v (.ref C):=by
 cases x with
 | ref n =>
  obtain ⟨a,rfl,ha⟩:=r
  have h:mD st[n]?=some (.inr (f,c)):=h
  cases e:st[n]? with
  | none=>rw [e] at h;cases h
  | some so =>
   rw [e] at h
   cases so with
   | lst xs=>cases h
   | dic ks xs=>cases h
   | fdi ks xs=>cases h
   | dit ks xs=>cases h
   | ins c' ks xs =>
    cases h
    obtain ⟨C,dx,vs,hC,hH,_⟩:=s.addr e ha
    have q:=hi C rfl hC
    exact ⟨C,hC,.of (.ins hH q.cl q.ha q.hn q.tk q.hm)⟩
 | exo c' ks xs =>
  cases h
  obtain ⟨a,C,d,vs,rfl,hC,hH,hd,_⟩:=r
  exact ⟨C,hC,.exc hH hd (hx C rfl hC)⟩
 | non=>cases h
 | bl _=>cases h
 | int _=>cases h
 | str _=>cases h
 | tup _=>cases h
 | frl _=>cases h
 | ty _=>cases h
 | fn _=>cases h
 | kd _ _=>cases h
def OE {t:IsT} (F:IsF X.K X.mg t):cQ X (.builtin "isinstance") (je t):=⟨_,OD,fun ρ H st xs vs Q E s r h=>by
 match xs,r,h with
 | [x,y],r,h =>
  obtain ⟨v,w,rfl,rx,ry⟩:=Rs.two r
  have h:Out X.K X.mg ρ H (vd t st y (lD st x) st) (gV X.K X.mg Q) E:=h
  cases hc:lD st x with
  | none=>rw [hc] at h;cases y<;>exact h.elim
  | some cc =>
   rw [hc] at h
   cases cc with
   | inl T =>
    cases y with
    | ty n =>
     cases ry
     obtain ⟨b,hb,h⟩:=tj h
     exact ⟨v,_,_,_,b,rfl,Ea s rx hc,rfl,λc' h=>h,Om X.K hb,h.now s _ rfl⟩
    | fn B =>
     obtain ⟨D,rfl,hD⟩:=ry
     obtain ⟨b,hb,h⟩:=tj h
     obtain ⟨D',hD',k⟩:=F.u T B b hb
     rw [hD] at hD'
     cases hD'
     exact ⟨v,_,_,_,b,rfl,Ea s rx hc,rfl,λc' h=>h,k,h.now s _ rfl⟩
    | _=>exact h.elim
   | inr fc =>
    obtain ⟨f,c⟩:=fc
    cases y with
    | ty n =>
     cases ry
     obtain ⟨hf,h⟩:=Out.ifp h
     obtain ⟨b,hb,h⟩:=tj h
     obtain ⟨C,hC,k⟩:=F.tt c n b hb
     obtain ⟨C',hC',ty⟩:=Eb (λC e hC=>F.x c C (hf.trans e) hC (.inr ⟨n,b,hb⟩)) (λC e hC=>F.i c C (hf.trans e) hC (.inr ⟨n,b,hb⟩)) s rx hc
     rw [hC] at hC'
     cases hC'
     exact ⟨v,_,_,_,b,rfl,ty,rfl,λc' h=>h,k,h.now s _ rfl⟩
    | fn B =>
     obtain ⟨D,rfl,hD⟩:=ry
     obtain ⟨hf,h⟩:=Out.ifp h
     obtain ⟨b,hb,h⟩:=tj h
     obtain ⟨C,D',hC,hD',k⟩:=F.s c B b hb
     rw [hD] at hD'
     cases hD'
     obtain ⟨C',hC',ty⟩:=Eb (λC e hC=>F.x c C (hf.trans e) hC (.inl ⟨B,b,hb⟩)) (λC e hC=>F.i c C (hf.trans e) hC (.inl ⟨B,b,hb⟩)) s rx hc
     rw [hC] at hC'
     cases hC'
     exact ⟨v,_,_,_,b,rfl,ty,rfl,λc' h=>h,k,h.now s _ rfl⟩
    | _=>exact h.elim
 | [],r,h=>exact h.elim
 | [_],r,h=>exact h.elim
 | _::_::_::_,r,h=>exact h.elim⟩
end
section
variable {X:Cx}{Er:XK}{K:Frag}{mg:Ab}{a b c e o:Expr}{es:List Expr}{st:Stmt}{dX:List Stmt}{pos p apos pos':Pos}{fa fb fc fo:Ai}{fs:Ah}{k:Nat}{x:Str}{m:Al}
variable {g g' gb:Aj}{ga:Ak}
def Out.fl {ρ:Ae}{H:Hp}{st:ae}{D:Ends}{fl:Fl}{E:XK}(h:Out K mg ρ H (.ok fl st) (gS K mg D) E) (s:aX K mg ρ H st):gS K mg D ρ H fl st:=h.now s
def ye:Aj:=λenv st=>.ok (.nx env) st
def gw (g:Aj):Fl->Mo Fl
 | .nx env,st=>g env st
 | fl,st=>.ok fl st
def zw (g g':Aj):Aj:=λenv st=>(g env st).bind (gw g')
def yw:ff X Er [] ye:=de.weak Ke λD U H ⟨env,st,ρ,re,rs,h⟩=>h.now rs U re
def zC (h1:MS X Er st g) (h2:ff X Er dX g'):ff X Er (st::dX) (zw g g') :=
 de.weak (Kf h1 h2) λD U H ⟨env,st,ρ,re,rs,h⟩=>⟨env,st,ρ,re,rs,h.then λaf H1 fl ao e1 s1 h1=>by
  cases fl with
  | nx bQ=>exact λar OG=>⟨bQ,ao,af,OG,s1,h1⟩
  | rt v=>exact Out.fl (D:=D) (fl:=.rt v) (E:=Er) h1 s1
  | bk bQ=>exact Out.fl (D:=D) (fl:=.bk bQ) (E:=Er) h1 s1
  | ct bQ=>exact Out.fl (D:=D) (fl:=.ct bQ) (E:=Er) h1 s1⟩
def zK (h1:MS X Er st g):ff X Er [st] g:=Kg h1
def zG (i:Nat) (f:Ai):Aj:=λenv st=>(f env st).bind λx ao=>.ok (.nx (env.set i (some x))) ao
def zU (i:Nat) {x:Str}(he:ME X Er e fa) (hN:X.N.Nodup) (hi:X.N[i]?=some x:=by rfl) (hx:Loc X.env.scope x:=by first|exact Or.inl rfl|exact Or.inr rfl) (hs:swapsWith e (some (.Name x pos')) pos.line X.env=pure false:=by rfl)
  (hf:X.fn x=true\/X.env.scope.names.lookup x=some .local:=by first|exact .inl rfl|exact .inr rfl|assumption):MS X Er (.Assign [.Name x pos'] e pos) (zG i fa) :=
 PS.weak (Ks hN hi hx he hs hf) λD U H ⟨env,st,ρ,re,rs,h⟩=>⟨env,st,ρ,re,rs,h.then λaf H1 x ao e1 s1 h1 v rv=>h1.now s1 _ ((re.ext e1).set i rv)⟩
def yT (f:Ai):Aj:=λenv st=>(f env st).bind λ_ ao=>.ok (.nx env) ao
def wt (he:ME X Er e fa) (hs:swapsWith e none pos.line X.env=pure false:=by rfl):MS X Er (.Expr e pos) (yT fa) :=
 PS.weak (Ki he hs) λD U H ⟨env,st,ρ,re,rs,h⟩=>⟨env,st,ρ,re,rs,h.then λaf H1 x ao e1 s1 h1 v rv=>h1.now s1 _ (re.ext e1)⟩
def zV (f:Ai):Aj:=λenv st=>(f env st).bind λx ao=>.ok (.rt x) ao
def yd (he:ME X Er e fa):MS X Er (.Return (some e) pos) (zV fa) :=
 PS.weak (Kk he) λD U H ⟨env,st,ρ,re,rs,h⟩=>⟨env,st,ρ,re,rs,h.then λaf H1 x ao e1 s1 h1 v rv=>h1.now s1 _ rv⟩
def zZ (t:Ak) (g g':Aj):Aj:=λenv st=>(t env st).bind λc ao=>if c=true then g env ao else g' env ao
def yq {A B:List Stmt}(hc:MT X Er c ga) (ha:ff X Er A g) (hb:ff X Er B g'):MS X Er (.If c A B pos) (zZ ga g g') :=
 PS.weak (Km hc ha hb) λD U H ⟨env,st,ρ,re,rs,h⟩=>⟨env,st,ρ,re,rs,h.then λaf H1 k ao e1 s1 h1=>by
  cases k with
  | true=>exact ⟨env,ao,af,re.ext e1,s1,h1⟩
  | false=>exact ⟨env,ao,af,re.ext e1,s1,h1⟩⟩
def kG:Am
 | .int i,.int j,st=>.ok (.int (i+j)) st
 | _,_,_=>.stuck
def oB (i:Nat) (op:Am) (f:Ai):Aj:=λenv st=>(zc i env st).bind λx c9=>(f env c9).bind λy ao=>(op x y ao).bind λz ax=>.ok (.nx (env.set i (some z))) ax
def vg (X:Cx) (o:Operator) (op:Am):Prop:=∃r,vy X o r/\fI X.K X.mg r op
def OH:vg X .Add kG:=⟨_,Kx,by
 intro ρ H st x y v w Q E s rx ry h
 cases x with
 | int i =>
  cases y with
  | int j=>cases rx;cases ry;exact ⟨i,j,rfl,rfl,Out.now (x:=PV.int (i+j)) h s _ rfl⟩
  | _=>exact h.elim
 | _=>exact h.elim⟩
def OI (i:Nat) {x:Str}{o:Operator}{op:Am}(ho:vg X o op) (he:ME X Er e fa) (hN:X.N.Nodup) (hi:X.N[i]?=some x:=by rfl) (hx:Loc X.env.scope x:=by first|exact Or.inl rfl|exact Or.inr rfl)
  (hf:X.fn x=true\/X.env.scope.names.lookup x=some .local:=by first|exact .inl rfl|exact .inr rfl|assumption):MS X Er (.AugAssign (.Name x pos') o e pos) (oB i op fa):=by
 obtain ⟨r,h1,h2⟩:=ho
 refine PS.weak (Ku hN hi hx he h1 hf) λD U H ⟨env,st,ρ,re,rs,h⟩=>?_
 unfold oB zc at h
 cases hx:env[i]? with
 | none=>simp only [hx] at h;exact h.elim
 | some q =>
  cases q with
  | none=>simp only [hx] at h;exact h.elim
  | some x0 =>
   simp only [hx] at h
   obtain ⟨v,hv,rv⟩:=re.at_ i x0 hx
   exact ⟨v,hv,env,st,ρ,re,rs,Out.then (f:=λy ao=>(op x0 y ao).bind λz ax=>Res.ok (Fl.nx (env.set i (some z))) ax) (good:=gS X.K X.mg D) h λaf H1 y ao e1 s1 k1 w rw=>h2 af H1 ao x0 y v w _ Er s1 (R.ext e1 x0 rv) rw (k1.then λam H2 z ax e2 s2 k2 u ru=>k2.now s2 _ (((re.ext e1).ext e2).set i ru))⟩
def putK (f:Str) (x:PV):List Str->List PV->List Str×List PV
 | k::ks,y::ys=>if k=f then (k::ks,x::ys) else (k::(putK f x ks ys).1,y::(putK f x ks ys).2)
 | _,_=>([f],[x])
theorem Ec {ρ:Ae}{H:Hp}{f:Str}{x:PV}{v:V}(r:R K mg ρ H x v):∀{ks:Ad}{xs:An}{vs:List V},ks.length=vs.length->Rs K mg ρ H xs vs->∃ws,cw f v (ks.zip vs)=(putK f x ks xs).1.zip ws/\Rs K mg ρ H (putK f x ks xs).2 ws/\(putK f x ks xs).1.length=ws.length
 | [],xs,vs,hl,h=>by
  have:vs=[]:=by cases vs with|nil=>rfl|cons=>simp at hl
  subst this
  have:xs=[]:=by cases xs with|nil=>rfl|cons=>obtain ⟨_,_,e,_⟩:=h;cases e
  subst this
  exact ⟨[v],rfl,⟨v,[],rfl,r,rfl⟩,rfl⟩
 | k::ks,xs,vs,hl,h=>by
  cases vs with
  | nil=>simp at hl
  | cons v0 vs =>
   cases xs with
   | nil=>cases h
   | cons y ys =>
    obtain ⟨Wn,r',e,h1,h2⟩:=h
    cases e
    simp only [putK,List.zip_cons_cons,cw]
    by_cases hk:k=f
    ·rw [zF hk,zF hk]
     exact ⟨v::vs,rfl,⟨v,vs,rfl,r,h2⟩,by simpa using hl⟩
    ·rw [zR hk,zR hk]
     obtain ⟨ws,e1,e2,e3⟩:=Ec r (by simpa using hl) h2
     exact ⟨v0::ws,by rw [e1];rfl,⟨v0,ws,rfl,h1,e2⟩,by simp [e3]⟩
def putAt (f:Str) (ins:Str->Bool) (x:PV):PV->Mo Unit
 | .ref n,st=>wo st n λc ks xs=>if ins c=true/\ks.length<1000 then .ok () (st.set n (.ins c (putK f x ks xs).1 (putK f x ks xs).2)) else .stuck
 | _,_=>.stuck
def sFld (f:Str) (ins:Str->Bool) (fo fv:Ai):Aj:=λenv st=>(fv env st).bind λx ao=>(fo env ao).bind λo ax=>(putAt f ins x o ax).bind λ_ aS=>.ok (.nx env) aS
theorem Ed {f:Str}{ins exc:Str->Bool}(F:FldF X.K X.mg f ins exc) (ho:ME X Er o fo) (he:ME X Er e fa) (hs:swapsWith e (some (.Attribute o f pos')) pos.line X.env=pure false:=by rfl):MS X Er (.Assign [.Attribute o f pos'] e pos) (sFld f ins fo fa) :=
 PS.weak (Lx ho he hs) λD U H ⟨env,st,ρ,re,rs,h⟩=>⟨env,st,ρ,re,rs,h.then λaf H1 x ao e1 s1 h1 v rv=>⟨env,ao,af,re.ext e1,s1,h1.then λam H2 y ax e2 s2 h2 w rw=>by
  cases y with
  | ref n =>
   cases hn:ax[n]? with
   | none=>simp only [putAt,wo,hn] at h2;exact h2.elim
   | some so =>
    cases so with
    | lst _=>simp only [putAt,wo,hn] at h2;exact h2.elim
    | dic _ _=>simp only [putAt,wo,hn] at h2;exact h2.elim
    | fdi _ _=>simp only [putAt,wo,hn] at h2;exact h2.elim
    | dit _ _=>simp only [putAt,wo,hn] at h2;exact h2.elim
    | ins c ks xs =>
     simp only [putAt,wo,hn] at h2
     by_cases hc:ins c=true/\ks.length<1000
     ·rw [zF hc] at h2
      obtain ⟨p,rfl,hp⟩:=rw
      obtain ⟨C',dx,vs,hC',hH,hR,hl⟩:=s2.addr hn hp
      obtain ⟨C,hC,cl,na⟩:=F.i c hc.1
      rw [hC] at hC'
      cases hC'
      obtain ⟨ws,k1,k2,k3⟩:=Ec (f:=f) (R.ext e2 x rv) hl hR
      refine ⟨p,_,dx,_,rfl,hH,cl,na,?_,?_⟩
      ·rw [List.length_zip,<-hl];have:=hc.2;omega
      ·have ew:Ext am H2 am (upd H2 p (.ins C' dx (cw f v (ks.zip vs)))):=Ext.write hH rfl
       exact h2 am _ ew (s2.write hp ew ⟨_,dx,ws,hC,by rw [jh,k1],Rs.ext ew _ k2,k3⟩) U (((re.ext e1).ext e2).ext ew)
     ·rw [zR hc] at h2;exact h2.elim
  | _=>exact h2.elim⟩⟩
def MG (X:Cx) (Er:XK) (e:Expr) (g:PV->zj->Option zj):Prop:=PG X e λv U H Q=>∃x env bp ρ,R X.K X.mg ρ H x v/\a_ X.K X.mg ρ H env U/\g x env=some bp/\∀ai,a_ X.K X.mg ρ H bp ai->Q ai H
def PG.weak {t t':TG}(h:PG X e t) (w:∀v U H Q,t' v U H Q->t v U H Q):PG X e t':=λpins s U H v u Q I r q=>h pins s U H v u Q I r (w v U H Q q)
def gN (i:Nat):PV->zj->Option zj:=λx env=>some (env.set i (some x))
def we (i:Nat) {x:Str}(hN:X.N.Nodup) (hi:X.N[i]?=some x:=by rfl) (hx:Loc X.env.scope x:=by first|exact Or.inl rfl|exact Or.inr rfl) (hf:X.fn x=true\/X.env.scope.names.lookup x=some .local:=by first|exact .inl rfl|exact .inr rfl|assumption):MG X Er (.Name x pos) (gN i) :=
 PG.weak (iJ hN hi hx hf) λv U H Q ⟨x,env,bp,ρ,rx,re,hg,q⟩=>by
  cases hg
  exact q _ (re.set i rx)
def g2 (i j:Nat):PV->zj->Option zj
 | .tup [x,y],env=>some ((env.set i (some x)).set j (some y))
 | _,_=>none
def OJ {i j:Nat}{x:PV}{env bp:zj}(h:g2 i j x env=some bp):∃y z,x=.tup [y,z]/\bp=(env.set i (some y)).set j (some z):=by
 unfold g2 at h
 split at h
 ·cases h;exact ⟨_,_,rfl,rfl⟩
 ·cases h
def qo (i j:Nat) {x y:Str}{kt:Nat}{px py:Pos}(hc:X.calm=true) (hN:X.N.Nodup) (hi:X.N[i]?=some x:=by rfl) (hj:X.N[j]?=some y:=by rfl) (hx:Loc X.env.scope x:=by first|exact Or.inl rfl|exact Or.inr rfl) (hy:Loc X.env.scope y:=by first|exact Or.inl rfl|exact Or.inr rfl)
  (hf:X.fn x=true\/X.env.scope.names.lookup x=some .local:=by first|exact .inl rfl|exact .inr rfl|assumption) (OK:X.fn y=true\/X.env.scope.names.lookup y=some .local:=by first|exact .inl rfl|exact .inr rfl|assumption):MG X Er (.Tuple [.Name x px,.Name y py] kt pos) (g2 i j) :=
 PG.weak (vC (n:=2) hc (nX (iJ hN hi hx hf) (nX (iJ hN hj hy OK) vA))) λv U H Q ⟨x,env,bp,ρ,rx,re,hg,q⟩=>by
  obtain ⟨y,z,rfl,rfl⟩:=OJ hg
  obtain ⟨a,vs,rfl,h1,h2⟩:=rx
  obtain ⟨u,w,rfl,r1,r2⟩:=Rs.two h2
  exact ⟨a,_,rfl,h1,rfl,u,[w],rfl,w,[],rfl,rfl,q _ ((re.set i r1).set j r2)⟩
def g3 (i j k:Nat):PV->zj->Option zj
 | .tup [x,y,z],env=>some (((env.set i (some x)).set j (some y)).set k (some z))
 | _,_=>none
def qp (g:PV->zj->Option zj) (f:Ai):Aj:=λenv st=>(f env st).bind λx ao=>match g x env with
 | some bp=>.ok (.nx bp) ao
 | none=>.stuck
def zp3 {tg:Expr}{gt:PV->zj->Option zj}(hg:MG X Er tg gt) (he:ME X Er e fa) (hs:swapsWithSole [tg] e pos.line X.env=pure false:=by rfl) (hw:swappedStores [tg] e X.env=pure none:=by rfl)
  (h1:(assignEach [tg] X.env).map (·.2)=[assign tg X.env]:=by rfl):MS X Er (.Assign [tg] e pos) (qp gt fa) :=
 PS.weak (CD he hg hs hw h1) λD U H ⟨env,st,ρ,re,rs,h⟩=>⟨env,st,ρ,re,rs,h.then λaf H1 x ao e1 s1 h1 v rv=>by
  cases hx:gt x env with
  | none=>simp only [hx] at h1;exact h1.elim
  | some bp =>
   simp only [hx] at h1
   exact ⟨x,env,bp,af,rv,re.ext e1,hx,λai r'=>Out.now (x:=Fl.nx bp) h1 s1 ai r'⟩⟩
inductive Sq where
 | im (xs:An)|rf (n:Nat)
def Walk (K:Frag) (mg:Ab) (J:It) (ρ:Ae) (H:Hp):Sq->Prop
 | .im xs=>(∀i ah H',Ext ρ H ah H'->i<xs.length->J.go i H')/\(∀i ah H',Ext ρ H ah H'->xs.length<=i->J.stop i H') /\
  ∀i ah H' st v H2,Ext ρ H ah H'->aX K mg ah H' st->i<xs.length->J.yld i H' v H2->∃x,xs[i]?=some x/\Ext ah H' ah H2/\aX K mg ah H2 st/\R K mg ah H2 x v
 | .rf n=>∃a,ρ[n]?=some a/\J=r8 K a
def MI (X:Cx) (Er:XK) (tg iter:Expr) (src:zj->Mo Sq):Prop:=PI X tg iter λU H R=>∃env st ρ,a_ X.K X.mg ρ H env U/\aX X.K X.mg ρ H st/\Out X.K X.mg ρ H (src env st) (λah H' q bA=>∀J,Walk X.K X.mg J ah H' q->R J H') Er
def forL (g:PV->zj->Option zj) (body:Aj):List PV->Aj
 | [],env,st=>.ok (.nx env) st
 | x::xs,env,st=>match g x env with
  | none=>.stuck
  | some bQ=>(body bQ st).bind λfl ax=>match fl with
   | .nx e=>forL g body xs e ax
   | .ct e=>forL g body xs e ax
   | .bk e=>.ok (.nx e) ax
   | .rt v=>.ok (.rt v) ax
def forR (g:PV->zj->Option zj) (body:Aj) (n:Nat):Nat->Nat->Aj
 | 0,_,_,_=>.stuck
 | m+1,i,env,st=>yx st n λxs=>match xs[i]? with
  | none=>.ok (.nx env) st
  | some x=>match g x env with
   | none=>.stuck
   | some bQ=>(body bQ st).bind λfl ax=>match fl with
    | .nx e=>forR g body n m (i+1) e ax
    | .ct e=>forR g body n m (i+1) e ax
    | .bk e=>.ok (.nx e) ax
    | .rt v=>.ok (.rt v) ax
def qq (g:PV->zj->Option zj) (body:Aj):Sq->Aj
 | .im xs=>forL g body xs
 | .rf n=>forR g body n (lim+1) 0
def yU (src:zj->Mo Sq) (g:PV->zj->Option zj) (body:Aj):Aj:=λenv st=>(src env st).bind λq ao=>qq g body q env ao
theorem wf {tg iter:Expr}{src:zj->Mo Sq}{gt:PV->zj->Option zj}(hp:PassesOwn (model X.prog X.w) X.A X.env X.xe) (hc:X.calm=true) (hi:MI X Er tg iter src) (hg:MG X Er tg gt) (hb:ff X Er dX gb)
  (hs:∀x,foldedSetIterable iter X.env x=pure x:=by intro _;rfl):MS X Er (.For tg iter dX [] pos) (yU src gt gb) :=
 PS.weak (vE hp hc hi hg hb hs) λD U H ⟨env,st,ρ,re,rs,h⟩=>⟨env,st,ρ,re,rs,h.then λap H0 q c9 e0 s0 h0 J wk=>by
  cases q with
  | im xs =>
   obtain ⟨w1,w2,w3⟩:=wk
   refine ⟨λi m U H=>m=xs.length-i/\i<=xs.length/\∃env st ρ,a_ X.K X.mg ρ H env U/\aX X.K X.mg ρ H st/\Ext ap H0 ρ H/\Out X.K X.mg ρ H (forL gt gb (xs.drop i) env st) (gS X.K X.mg D) Er,⟨xs.length,by simp,js _,env,c9,ap,re.ext e0,s0,Ext.refl,h0⟩,?_⟩
   rintro i m U H ⟨rfl,hi,env,st,ρ,re,rs,ex,h⟩
   by_cases bh:i<xs.length
   ·refine .inr ⟨w1 i ρ H ex bh,_,λai H' p'=>⟨xs.length-(i+1),by omega,rfl,bh,p'⟩,λv H' y=>?_⟩
    obtain ⟨x,hx,bP,s2,rx⟩:=w3 i ρ H st v H' ex rs bh y
    have hd:xs.drop i=x::xs.drop (i+1):=by
     rw [j8 bh]
     have:=(yl.mp hx).2
     rw [this]
    rw [hd] at h
    cases hgx:gt x env with
    | none=>simp only [forL,hgx] at h;exact h.elim
    | some bQ =>
     simp only [forL,hgx] at h
     refine ⟨x,env,bQ,ρ,rx,re.ext bP,hgx,λar r1=>⟨bQ,st,ρ,r1,s2,Out.then (Out.ext h bP) λaj H3 fl aS e3 s3 h3=>?_⟩⟩
     cases fl with
     | nx e=>exact λaA r4=>⟨e,aS,aj,r4,s3,(ex.trans bP).trans e3,h3⟩
     | ct e=>exact λaA r4=>⟨e,aS,aj,r4,s3,(ex.trans bP).trans e3,h3⟩
     | bk e=>exact Out.fl (D:=D) (fl:=.nx e) (E:=Er) h3 s3
     | rt v=>exact Out.fl (D:=D) (fl:=.rt v) (E:=Er) h3 s3
   ·have e:i=xs.length:=by omega
    subst e
    rw [List.drop_length] at h
    exact .inl ⟨w2 _ ρ H ex (yk _),Out.now (x:=Fl.nx env) h rs U re⟩
  | rf n =>
   obtain ⟨a,ha,rfl⟩:=wk
   refine ⟨λi m U H=>∃env st ρ,a_ X.K X.mg ρ H env U/\aX X.K X.mg ρ H st/\ρ[n]?=some a/\Out X.K X.mg ρ H (forR gt gb n m i env st) (gS X.K X.mg D) Er,⟨lim+1,env,c9,ap,re.ext e0,s0,ha,h0⟩,?_⟩
   rintro i m U H ⟨env,st,ρ,re,rs,ha,h⟩
   cases m with
   | zero=>exact h.elim
   | succ m =>
    obtain ⟨xs,hn,h⟩:=jK h
    obtain ⟨vs,hH,hR⟩:=rs.addr hn ha
    cases hx:xs[i]? with
    | none =>
     simp only [hx] at h
     have:vs.length<=i:=by rw [<-hR.len];exact lU.mp hx
     exact .inl ⟨⟨vs,aZ.of hH,this⟩,Out.now (x:=Fl.nx env) h rs U re⟩
    | some x =>
     simp only [hx] at h
     obtain ⟨v,hv,rv⟩:=hR.get hx
     refine .inr ⟨⟨vs,v,aZ.of hH,hv⟩,_,λai H' p'=>⟨m,wv m,p'⟩,λv' H' y=>?_⟩
     obtain ⟨e1,y⟩:=y
     subst e1
     have e2:=y vs (aZ.of hH)
     rw [hv] at e2
     cases e2
     cases hgx:gt x env with
     | none=>simp only [hgx] at h;exact h.elim
     | some bQ =>
      simp only [hgx] at h
      refine ⟨x,env,bQ,ρ,rv,re,hgx,λar r1=>⟨bQ,st,ρ,r1,rs,Out.then h λaj H3 fl aS e3 s3 h3=>?_⟩⟩
      cases fl with
      | nx e=>exact λaA r4=>⟨e,aS,aj,r4,s3,e3.get ha,h3⟩
      | ct e=>exact λaA r4=>⟨e,aS,aj,r4,s3,e3.get ha,h3⟩
      | bk e=>exact Out.fl (D:=D) (fl:=.nx e) (E:=Er) h3 s3
      | rt v=>exact Out.fl (D:=D) (fl:=.rt v) (E:=Er) h3 s3⟩
end
section
variable {X:Cx}{Er:XK}{K:Frag}{mg:Ab}{a b c e o tg:Expr}{es:List Expr}{st:Stmt}{dX:List Stmt}{pos p apos pos':Pos}{fa fb fc fo:Ai}{fs:Ah}{k:Nat}{x:Str}{m:Al}
variable {g g' gb:Aj}{ga:Ak}
def PI.weak {t t':TI}(h:PI X tg e t) (w:∀U H Q,t' U H Q->t U H Q):PI X tg e t':=λpins s U H Q I q=>h pins s U H Q I (w U H Q q)
def OL (K:Frag) (tl:TE):TI:=λU H R=>tl U H λx H1=>(∃a,x=.ref a/\(∃xs,aZ K H1 a xs)/\R (r8 K a) H1)\/(∃a,x=.ref a/\(∃xs,a5 K H1 a xs)/\R (nY K a) H1)\/∃z,x=.str z/\R (v9 z) H1
def OM {l:Expr}{tl:TE}(hl:PE X l tl):PI X tg l (OL X.K tl):=by
 intro pins s U H R I h
 refine aO (hl pins s U H _ I h) λv s1 ⟨x,H1,I1,r1,q1⟩=>?_
 have fin:∀b∈[s1.heap.objs.size],df X pins H1 b:=λb hb=>by
  have e:b=s1.heap.objs.size:=by simpa using hb
  subst e
  exact I1.fpOk (yk _) (I1.hok.fresh (yk _))
 rcases q1 with ⟨a,e,⟨xs,hq⟩,q⟩|⟨a,e,⟨xs,hq⟩,q⟩|⟨z,rfl,q⟩
 ·subst e
  cases r1
  obtain ⟨its,rv,p,hz⟩:=I1.list hq
  exact wpAny_pyIter_list p.isList ⟨s1.heap.objs.size,[s1.heap.objs.size],_,_,H1,rfl,I1.kept (t':=s1.toks) (λb o e=>yC _ e),KA a _,⟨_,jq _ rfl,rfl,rfl⟩,fin,q⟩
 ·subst e
  cases r1
  obtain ⟨its,rv,p,hz⟩:=I1.tuple hq
  exact wpAny_pyIter_tuple (show s1.heap.IsTuple a its.toArray from p) ⟨s1.heap.objs.size,[s1.heap.objs.size],_,_,H1,rfl,I1.kept (t':=s1.toks) (λb o e=>yC _ e),KC a _,⟨_,jq _ rfl,rfl,rfl⟩,fin,q⟩
 ·obtain ⟨t,rfl⟩:=r1
  cases ha:z.cps.all (·<128) with
  | false=>exact wpAny_pyIter_wide ha ⟨s1.heap.objs.size,[s1.heap.objs.size],_,_,H1,rfl,I1.kept (t':=s1.toks) (λb o e=>yC _ e),Dx z t _ "str_iterator" (.inr rfl),⟨_,jq _ rfl,rfl,rfl⟩,fin,q⟩
  | true=>exact wpAny_pyIter_ascii ha ⟨s1.heap.objs.size,[s1.heap.objs.size],_,_,H1,rfl,I1.kept (t':=s1.toks) (λb o e=>yC _ e),Dx z t _ "str_ascii_iterator" (.inl rfl),⟨_,jq _ rfl,rfl,rfl⟩,fin,q⟩
def OO {ρ:Ae}{H:Hp}{a:Addr}{xs:An}{vs:List V}(h:a5 K H a vs) (r:Rs K mg ρ H xs vs):Walk K mg (nY K a) ρ H (.im xs):=by
 refine ⟨λi ah H' e hi=>?_,λi ah H' e hi=>⟨vs,e.sqT h,by rw [<-r.len];exact hi⟩,λi ah H' st v H2 e s hi y=>?_⟩
 ·obtain ⟨v,hv,_⟩:=r.get (yB hi)
  exact ⟨vs,v,e.sqT h,hv⟩
 ·obtain ⟨e1,y⟩:=y
  subst e1
  obtain ⟨v',hv,rv⟩:=r.get (yB hi)
  have:=y vs (e.sqT h)
  rw [hv] at this
  cases this
  exact ⟨_,yB hi,Ext.refl,s,R.ext e _ rv⟩
def OQ {ρ:Ae}{H:Hp}{a:Addr}{xs:An}{vs:List V}(h:kD K H a vs) (r:Rs K mg ρ H xs vs):Walk K mg (r8 K a) ρ H (.im xs):=by
 have hs:∀{ah H'},Ext ρ H ah H'->aZ K H' a vs:=λe=>(e.frl h).sq
 refine ⟨λi ah H' e hi=>?_,λi ah H' e hi=>⟨vs,hs e,by rw [<-r.len];exact hi⟩,λi ah H' st v H2 e s hi y=>?_⟩
 ·obtain ⟨v,hv,_⟩:=r.get (yB hi)
  exact ⟨vs,v,hs e,hv⟩
 ·obtain ⟨e1,y⟩:=y
  subst e1
  obtain ⟨v',hv,rv⟩:=r.get (yB hi)
  have:=y vs (hs e)
  rw [hv] at this
  cases this
  exact ⟨_,yB hi,Ext.refl,s,R.ext e _ rv⟩
def signs (z:Str):An:=z.cps.toList.map λc=>.str ⟨#[c]⟩
def OR {ρ:Ae}{H:Hp}(z:Str):Walk K mg (v9 z) ρ H (.im (signs z)):=by
 have hl:(signs z).length=z.cps.size:=by simp [signs]
 refine ⟨λi ah H' e hi=>by rw [hl] at hi;exact hi,λi ah H' e hi=>by rw [hl] at hi;exact hi,λi ah H' st v H2 e s hi y=>?_⟩
 obtain ⟨e1,c,hc,e2⟩:=y
 subst e1 e2
 refine ⟨.str ⟨#[c]⟩,?_,Ext.refl,s,rfl⟩
 simp [signs,hc]
def nums (lo:Int) (n:Nat):An:=(List.range n).map λi=>.int (lo+(i:Nat))
def OS {ρ:Ae}{H:Hp}(lo:Int) (n:Nat):Walk K mg (pH lo n) ρ H (.im (nums lo n)):=by
 have hl:(nums lo n).length=n:=by simp [nums]
 refine ⟨λi ah H' e hi=>by rw [hl] at hi;exact hi,λi ah H' e hi=>by rw [hl] at hi;exact hi,λi ah H' st v H2 e s hi y=>?_⟩
 obtain ⟨e1,e2⟩:=y
 subst e1 e2
 rw [hl] at hi
 exact ⟨.int (lo+i),by simp [nums,hi],Ext.refl,s,rfl⟩
def gU:PV->Mo Sq
 | .tup xs,st=>.ok (.im xs) st
 | .frl xs,st=>.ok (.im xs) st
 | .str z,st=>.ok (.im (signs z)) st
 | .ref n,st=>yx st n λ_=>.ok (.rf n) st
 | _,_=>.stuck
def yQ (f:Ai):zj->Mo Sq:=λenv st=>(f env st).bind gU
def wg (h:ME X Er e fa):MI X Er tg e (yQ fa):=PI.weak (OM h) λU H Q ⟨env,st,ρ,re,rs,h⟩=>⟨env,st,ρ,re,rs,h.then λaf H1 x ao e1 s1 h1 v rv=>by
 cases x with
 | tup xs =>
  obtain ⟨a,vs,rfl,k1,k2⟩:=rv
  exact .inr (.inl ⟨a,rfl,⟨vs,k1⟩,Out.now (x:=Sq.im xs) h1 s1 _ (OO k1 k2)⟩)
 | frl xs =>
  obtain ⟨a,vs,rfl,k1,k2⟩:=rv
  exact .inl ⟨a,rfl,⟨vs,k1.sq⟩,Out.now (x:=Sq.im xs) h1 s1 _ (OQ k1 k2)⟩
 | str z =>
  cases rv
  exact .inr (.inr ⟨z,rfl,Out.now (x:=Sq.im (signs z)) h1 s1 _ (OR z)⟩)
 | ref n =>
  obtain ⟨a,rfl,ha⟩:=rv
  obtain ⟨xs,hn,h1⟩:=jK h1
  obtain ⟨vs,k1,k2⟩:=s1.addr hn ha
  exact .inl ⟨a,rfl,⟨vs,aZ.of k1⟩,h1.now s1 _ ⟨a,ha,rfl⟩⟩
 | _=>exact h1.elim⟩
abbrev cR (j:Int):Bool:=decide (-(2 ^ 62)<=j)&&decide (j<2 ^ 62)
def mF:List PV->Mo Sq
 | [.int j],st=>if cR j=true then .ok (.im (nums 0 j.toNat)) st else .stuck
 | _,_=>.stuck
def OT:List PV->Mo Sq
 | [.int i,.int j],st=>if cR i=true/\cR j=true then .ok (.im (nums i (j-i).toNat)) st else .stuck
 | _,_=>.stuck
def OU {ρ:Ae}{H:Hp}{xs:An}{st:ae}{good:List Addr->Hp->Sq->ae->Prop}(h:Out K mg ρ H (mF xs st) good Er):∃j,xs=[.int j] /\ -(2 ^ 62)<=j/\j<2 ^ 62/\Out K mg ρ H (.ok (.im (nums 0 j.toNat)) st) good Er:=by
 unfold mF at h
 split at h
 ·obtain ⟨c,h⟩:=Out.ifp h
  simp [cR] at c
  exact ⟨_,rfl,c.1,c.2,h⟩
 ·exact h.elim
def bo (fs:Ah):zj->Mo Sq:=λenv st=>(fs env st).bind mF
def vD (fs:Ah):zj->Mo Sq:=λenv st=>(fs env st).bind OT
def OV {a:Expr} (hm:X.mg "range" = none) (ha:MA X Er [a] fs) (hg:Gl X "range" := by rfl) (hs:starEach [a] X.env=[(false,eval a X.env)]:=by rfl):MI X Er tg (.Call (.Name "range" p) [a] [] pos) (bo fs) :=
 PI.weak (KI hg hm ha hs) λU H Q ⟨env,st,ρ,re,rs,h⟩=>⟨env,st,ρ,re,rs,h.then λaf H1 xs ao e1 s1 h1 vs rv=>by
  obtain ⟨j,rfl,c1,c2,h1⟩:=OU h1
  obtain ⟨v,rfl,rfl⟩:=Rs.one rv
  exact ⟨j,rfl,c1,c2,h1.now s1 _ (OS 0 j.toNat)⟩⟩
def wK (xs ys:An):An:=(xs.zip ys).map λq=>.tup [q.1,q.2]
def xN:List PV->Mo Sq
 | [.tup xs,.tup ys],st=>.ok (.im (wK xs ys)) st
 | _,_=>.stuck
def OW {ρ:Ae}{H:Hp}{xs:An}{st:ae}{good:List Addr->Hp->Sq->ae->Prop}(h:Out K mg ρ H (xN xs st) good Er):∃ys zs,xs=[.tup ys,.tup zs]/\Out K mg ρ H (.ok (.im (wK ys zs)) st) good Er:=by
 unfold xN at h
 split at h
 ·exact ⟨_,_,rfl,h⟩
 ·exact h.elim
theorem OX {ρ:Ae}{H:Hp}{a b:Addr}{xs ys:An}{vs ws:List V}(h:a5 K H a vs) (r:Rs K mg ρ H xs vs) (h':a5 K H b ws) (r':Rs K mg ρ H ys ws):Walk K mg (xm K a b) ρ H (.im (wK xs ys)):=by
 have hl:(wK xs ys).length=min xs.length ys.length:=by simp [wK]
 have l1:=r.len
 have l2:=r'.len
 refine ⟨λi ah H' e hi=>?_,λi ah H' e hi=>⟨vs,ws,e.sqT h,e.sqT h',by rw [hl] at hi;omega⟩,λi ah H' st v H2 e s hi y=>?_⟩
 ·rw [hl] at hi
  obtain ⟨v,hv,_⟩:=r.get (yB (show i<xs.length by omega))
  obtain ⟨w,hw,_⟩:=r'.get (yB (show i<ys.length by omega))
  exact ⟨vs,ws,v,w,e.sqT h,e.sqT h',hv,hw⟩
 ·rw [hl] at hi
  obtain ⟨T,v',w',hT,rfl,rfl,y1,y2⟩:=y
  have k1:i<xs.length:=by omega
  have k2:i<ys.length:=by omega
  obtain ⟨v,hv,rv⟩:=r.get (yB k1)
  obtain ⟨w,hw,dG⟩:=r'.get (yB k2)
  have q1:=y1 vs (e.sqT h)
  have q2:=y2 ws (e.sqT h')
  rw [hv] at q1
  rw [hw] at q2
  cases q1;cases q2
  refine ⟨.tup [xs[i],ys[i]],?_,Ext.new hT,s.new hT,R.tup_of ⟨_,[_],rfl,R.ext e _ rv,_,[],rfl,R.ext e _ dG,rfl⟩ hT⟩
  rw [wK,yI,yB (by simp;omega)]
  simp
def Ee (fs:Ah):zj->Mo Sq:=λenv st=>(fs env st).bind xN
def OY {elts:List Expr} {kt:Nat} {tp:Pos} {x y:Expr} (hm:X.mg "zip" = none) (ha:MA X Er [x,y] fs) (hg:Gl X "zip" := by rfl) (hs:starEach [x,y] X.env=[(false,eval x X.env),(false,eval y X.env)]:=by rfl) (lY:starEach [y] X.env=[(false,eval y X.env)]:=by rfl) :
  MI X Er (.Tuple elts kt tp) (.Call (.Name "zip" p) [x,y] [] pos) (Ee fs) :=
 PI.weak (NM hg hm ha hs lY) λU H Q ⟨env,st,ρ,re,rs,h⟩=>⟨env,st,ρ,re,rs,h.then λaf H1 xs ao e1 s1 h1 vs rv=>by
  obtain ⟨ys,zs,rfl,h1⟩:=OW h1
  obtain ⟨v,w,rfl,⟨a,us,rfl,k1,k2⟩,⟨b,ws,rfl,k3,k4⟩⟩:=Rs.two rv
  exact ⟨a,b,rfl,⟨us,k1⟩,⟨ws,k3⟩,h1.now s1 _ (OX k1 k2 k3 k4)⟩⟩
def cf (t:Ak) (b:Aj):Nat->Aj
 | 0,_,_=>.stuck
 | n+1,env,st=>(t env st).bind λc ao=>if c=true then (b env ao).bind λfl ax=>match fl with
   | .nx e=>cf t b n e ax
   | .ct e=>cf t b n e ax
   | .bk e=>.ok (.nx e) ax
   | .rt v=>.ok (.rt v) ax
  else .ok (.nx env) ao
def xO (t:Ak) (b:Aj):Aj:=cf t b lim
def Ef (hp:PassesOwn (model X.prog X.w) X.A X.env X.xe) (hc:MT X Er c ga) (hb:ff X Er dX gb):MS X Er (.While c dX [] pos) (xO ga gb) :=
 PS.weak (Kz hp hc hb) λD U H ⟨env,st,ρ,re,rs,h⟩=>by
  refine ⟨λm U H=>∃env st ρ,a_ X.K X.mg ρ H env U/\aX X.K X.mg ρ H st/\Out X.K X.mg ρ H (cf ga gb m env st) (gS X.K X.mg D) Er,⟨lim,env,st,ρ,re,rs,h⟩,?_⟩
  rintro m U H ⟨env,st,ρ,re,rs,h⟩
  cases m with
  | zero=>exact h.elim
  | succ m =>
   refine ⟨env,st,ρ,re,rs,Out.then h λaf H1 k ao e1 s1 h1=>?_⟩
   cases k with
   | true =>
    change (if true=true then _ else D.nx U H1)
    rw [zF rfl]
    refine ⟨_,λai H' p'=>⟨m,wv m,p'⟩,env,ao,af,re.ext e1,s1,Out.then h1 λaj H3 fl aS e3 s3 h3=>?_⟩
    cases fl with
    | nx e=>exact λaA r4=>⟨e,aS,aj,r4,s3,h3⟩
    | ct e=>exact λaA r4=>⟨e,aS,aj,r4,s3,h3⟩
    | bk e=>exact Out.fl (D:=D) (fl:=.nx e) (E:=Er) h3 s3
    | rt v=>exact Out.fl (D:=D) (fl:=.rt v) (E:=Er) h3 s3
   | false =>
    have z:D.nx U H1:=Out.fl (D:=D) (fl:=.nx env) (E:=Er) h1 s1 U (re.ext e1)
    exact z
def qd (cn:Str):Aj:=λ_ st=>.err cn [] [] st
def cT {α:Type}:Res α->Res α
 | .err _ _ _ _=>.stuck
 | r=>r
def gW {α β:Type}{ρ:Ae}{H:Hp}{r:Res β}{f:β->Mo α}{good:List Addr->Hp->α->ae->Prop}{d7:List Addr->Hp->β->ae->Prop}{E E':XK}(h:Out K mg ρ H ((cT r).bind f) good E) (g:∀ah H' x st,Ext ρ H ah H'->aX K mg ah H' st->Out K mg ah H' (f x st) good E->d7 ah H' x st):Out K mg ρ H r d7 E':=by
 cases r with
 | ok x st=>exact λah H' e s=>g ah H' x st e s (Out.ext h e)
 | err=>exact h.elim
 | stuck=>exact h.elim
def yR:Am
 | .ref n,y,st=>yx st n λxs=>if xs.length<lim then .ok .non (st.set n (.lst (xs++[y]))) else .stuck
 | _,_,_=>.stuck
def OZ:Am
 | .ref n,.ref k,st=>yx st n λxs=>yx st k λys=>if xs.length+ys.length<=lim then .ok .non (st.set n (.lst (xs++ys))) else .stuck
 | _,_,_=>.stuck
def R.refL {ρ:Ae}{H:Hp}{st:ae}{n:Nat}{xs:An}{v:V}(s:aX K mg ρ H st) (r:R K mg ρ H (.ref n) v) (h:st[n]?=some (.lst xs)):∃a vs,v=.ref a/\ρ[n]?=some a/\H a=some (.lst vs)/\Rs K mg ρ H xs vs:=by
 obtain ⟨a,rfl,ha⟩:=r
 obtain ⟨vs,h1,h2⟩:=s.addr h ha
 exact ⟨a,vs,rfl,ha,h1,h2⟩
def lF:PV->Mo PV
 | .ref n,st=>yx st n λ_=>.ok (.ref n) st
 | _,_=>.stuck
def yN (op:Am) (fo fv:Ai):Ai:=λenv st=>(fo env st).bind λo ao=>(lF o ao).bind λo ao=>(fv env ao).bind λy ax=>op o y ax
def xP {α:Type}{ρ:Ae}{H:Hp}{x:PV}{st:ae}{f:PV->Mo α}{good:List Addr->Hp->α->ae->Prop}(h:Out K mg ρ H ((lF x st).bind f) good Er):∃n xs,x=.ref n/\st[n]?=some (.lst xs)/\Out K mg ρ H (f (.ref n) st) good Er:=by
 cases x with
 | ref n =>
  unfold lF yx at h
  cases hn:st[n]? with
  | none=>simp only [hn] at h;exact h.elim
  | some so =>
   cases so with
   | lst xs=>simp only [hn] at h;exact ⟨n,xs,rfl,hn,h⟩
   | _=>simp only [hn] at h;exact h.elim
 | _=>exact h.elim
theorem wy {a6:Pos} (ho:ME X Er o fo) (he:ME X Er e fa) (eZ:attributeBase o "append" X.env (eval o X.env)=eval o X.env:=by rfl)
  (gJ:((backTo a6 (starEach [e] X.env)).all (λx=>!x.1)&&(backToKw a6 (keywordEach [] X.env)).all (λx=>x.1.isSome)&&decide ([e].length+([]:List Keyword).length+(if ([]:List Keyword).isEmpty then 0 else 1)<30))=true:=by rfl)
  (e9:(apos.endLine==a6.line)=true:=by rfl) (hs:starEach [e] X.env=(false,eval e X.env)::starEach [] X.env:=by rfl) (bX:(backTo a6 (starEach [] X.env)).any (·.1)=false:=by rfl):ME X Er (.Call (.Attribute o "append" apos) [e] [] a6) (yN yR fo fa) :=
 PE.weak (vK PySem.F.plainAttrs_list PySem.F.slot_list_append PySem.F.type_list_append zou ho (si he sh hs) eZ gJ e9 hs bX) λU H Q ⟨env,st,ρ,re,rs,h⟩=>⟨env,st,ρ,re,rs,h.then λaf H1 x ao e1 s1 h1 v rv=>by
  obtain ⟨n,xs,rfl,hn,h1⟩:=xP h1
  obtain ⟨p,vs,rfl,hp,k1,k2⟩:=R.refL s1 rv hn
  refine ⟨.inl ⟨rfl,vs,aZ.of k1⟩,env,ao,af,re.ext e1,s1,h1.then λam H2 y ax e2 s2 h2 w rw=>?_⟩
  obtain ⟨xs2,fA,h2⟩:=jK h2
  obtain ⟨c,h2⟩:=Out.ifp h2
  obtain ⟨p',fS,e3,ky,k3,k4⟩:=R.refL s2 (R.ext e2 _ rv) fA
  cases e3
  have ew:Ext am H2 am (upd H2 p (.lst (fS++[w]))):=Ext.write k3 rfl
  refine ⟨p,fS,w,rfl,rfl,k3,?_,h2 am _ ew (s2.write ky ew ⟨fS++[w],jh,Rs.ext ew _ (k4.append ⟨w,[],rfl,rw,rfl⟩)⟩) _ rfl⟩
  rw [<-k4.len,sizeLine_eq];have:xs2.length<1000000:=c;omega⟩
end
def endOf:Fl->Mo PV
 | .rt v,st=>.ok v st
 | .nx _,st=>.ok .non st
 | _,_=>.stuck
def ym (np nN:Nat) (g:Aj):Al:=λxs st=>if xs.length=np then (g (xs.map some++List.replicate (nN-np) none) st).bind endOf else .stuck
section
variable {P:Program}{w:World}{K:Frag}{mg:Ab}{base:Heap}
abbrev tm (P:Program) (w:World) (K:Frag) (mg:Ab) (base:Heap) (N:Ad) (qual:Str) (scope:Scope) (f:Addr) (cd:Value) (A:Around) (outer:List Env) (s:Shared) (H:Hp) (E:XK):Cx :=
 (d5 (cZ P w) P w K mg base N qual scope f cd A outer s H E).wish (XA (d5 (cZ P w) P w K mg base N qual scope f cd A outer s H E) E)
theorem O0 {N:Ad}{np:Nat}{ρ:Ae}{H:Hp}{xs:An}{vs:List V}(r:Rs K mg ρ H xs vs) (h:xs.length=np):a_ K mg ρ H (xs.map some++List.replicate (N.length-np) none) (L2.start N vs):=by
 have hl:=r.len
 refine ⟨by simp [L2.start,<-hl,h],λi x hx=>?_⟩
 by_cases hi:i<xs.length
 ·rw [wQ (by simpa using hi)] at hx
  simp only [yI] at hx
  cases hq:xs[i]? with
  | none=>rw [hq] at hx;cases hx
  | some y =>
   rw [hq] at hx
   cases hx
   obtain ⟨v,hv,rv⟩:=r.get hq
   refine ⟨v,?_,rv⟩
   unfold L2.start
   rw [wQ (by simp;omega)]
   simp [hv]
 ·rw [iC (by simpa using hi)] at hx
  rw [List.getElem?_replicate] at hx
  split at hx<;>cases hx
def tq {x qual:Str}{sm:Stmt}{f:Addr}{fd:FuncData}{N ps:Ad}{k:Nat}{g:Aj}(F:e_ K x qual sm f fd) (S:aq N ps (yc sm))
  (hb:∀(aV:Value) (A:Around) (outer:List Env) (s:Shared) (H:Hp) (E:XK),bu k (A.deeper (PyProof.Rows.envOfC qual (yc sm) s.heap.objs.size f aV))->ff (tm P w K mg base N qual (yc sm) f aV A outer s H E) E (wm sm) g) :
  bO P w K mg base (cZ P w) (k+1) f fd ps (iR K mg (ym ps.length N.length g)):=by
 refine F.okT S (λvs H Q E h=>?_) λaV A outer s H vs Q E hr h=>⟨_,hb aV A outer s H E hr,?_⟩
 ·obtain ⟨xs,st,ρ,r,_,h⟩:=h
  obtain ⟨hl,_⟩:=Out.ifp h
  rw [<-r.len];exact hl
 ·obtain ⟨xs,st,ρ,r,rs,h⟩:=h
  obtain ⟨hl,h⟩:=Out.ifp h
  refine ⟨_,st,ρ,O0 r hl,rs,h.then λaf H1 fl ao e1 s1 h1=>?_⟩
  cases fl with
  | rt v=>exact λu ru=>Out.now (x:=v) h1 s1 u ru
  | nx e=>exact λai _=>Out.now (x:=PV.non) h1 s1 _ rfl
  | _=>exact h1.elim
def O1 {x:Str}{f:Addr}{fd:FuncData}{ps:Ad}{k:Nat}{m:Al}{sm:Stmt}{qual nm:Str}(hm:mg x=some (.ref f)) (F:e_ K nm qual sm f fd) (hb:Binds K fd ps []) (h:bO P w K mg base (cZ P w) k f fd ps (iR K mg m)):a7 P w K mg base x k m:=⟨f,fd,ps,hm,F.kp,hb,h⟩
end
section
variable {X:Cx}{Er:XK}{P:Program}{w:World}{K:Frag}{mg:Ab}{base:Heap}{pos:Pos}{x:Str}{st:Stmt}
theorem zx {k:Nat}{A:Around}(hr:bu k A):A.units+200<cLine:=by have:=hr.un;omega
def xQ:Aj:=λ_ _=>.stuck
def FnF (K:Frag) (mg:Ab) (x:Str) (sm:Stmt) (ps:Ad):Prop:=∃f fd,mg x=some (.ref f)/\e_ K x x sm f fd/\Binds K fd ps []
def MtF (K:Frag) (mg:Ab) (c name qual:Str) (sm:Stmt) (ps:Ad):Prop:=∃C f fd,mg c=some (.ref C)/\fB K C/\Meth K C name f/\e_ K name qual sm f fd/\Binds K fd ps []
def NwF (K:Frag) (mg:Ab) (c qual:Str) (sm:Stmt) (ps:Ad):Prop:=∃C f fd,mg c=some (.ref C)/\Mk K C f/\e_ K "__init__" qual sm f fd/\Binds K fd ps []
def FnF.ok {sm:Stmt}{N ps:Ad}{k:Nat}{g:Aj}(h:FnF K mg x sm ps) (S:aq N ps (yc sm))
  (hb:∀(f:Addr) (aV:Value) (A:Around) (outer:List Env) (s:Shared) (H:Hp) (E:XK),bu k (A.deeper (PyProof.Rows.envOfC x (yc sm) s.heap.objs.size f aV))->ff (tm P w K mg base N x (yc sm) f aV A outer s H E) E (wm sm) g) :
  a7 P w K mg base x (k+1) (ym ps.length N.length g):=by
 obtain ⟨f,fd,hm,F,b⟩:=h
 exact O1 hm F b (tq F S (hb f))
def MtF.ok {c name qual:Str}{sm:Stmt}{N ps:Ad}{k:Nat}{g:Aj}(h:MtF K mg c name qual sm ps) (S:aq N ps (yc sm))
  (hb:∀(f:Addr) (aV:Value) (A:Around) (outer:List Env) (s:Shared) (H:Hp) (E:XK),bu k (A.deeper (PyProof.Rows.envOfC qual (yc sm) s.heap.objs.size f aV))->ff (tm P w K mg base N qual (yc sm) f aV A outer s H E) E (wm sm) g) :
  gT P w K mg base c name (k+1) (ym ps.length N.length g):=by
 obtain ⟨C,f,fd,hm,cl,mt,F,b⟩:=h
 exact ⟨C,f,fd,ps,hm,cl,mt,b,tq F S (hb f)⟩
def NwF.ok {c qual:Str}{sm:Stmt}{N ps:Ad}{k:Nat}{g:Aj}(h:NwF K mg c qual sm ps) (S:aq N ps (yc sm))
  (hb:∀(f:Addr) (aV:Value) (A:Around) (outer:List Env) (s:Shared) (H:Hp) (E:XK),bu k (A.deeper (PyProof.Rows.envOfC qual (yc sm) s.heap.objs.size f aV))->ff (tm P w K mg base N qual (yc sm) f aV A outer s H E) E (wm sm) g) :
  xK P w K mg base c (k+1) (ym ps.length N.length g):=by
 obtain ⟨C,f,fd,hm,mk,F,b⟩:=h
 exact ⟨C,f,fd,ps,hm,mk,b,tq F S (hb f)⟩
theorem jQ:bootBuiltins "len" = some (.builtin "len"):=by decide +kernel
theorem O2:bootBuiltins "isinstance" = some (.builtin "isinstance"):=by decide +kernel
theorem O3:bootBuiltins "int" = some (.type "int"):=by decide +kernel
theorem Eg:bootBuiltins "bool" = some (.type "bool"):=by decide +kernel
theorem tD:bootBuiltins "str" = some (.type "str"):=by decide +kernel
theorem jZ:bootBuiltins "tuple" = some (.type "tuple"):=by decide +kernel
theorem O4:bootBuiltins "list" = some (.type "list"):=by decide +kernel
end
def a7.mono {P:Program}{w:World}{K:Frag}{mg:Ab}{base:Heap}{x:Str}{j k:Nat}{m:Al}(h:a7 P w K mg base x j m) (xR:j<=k):a7 P w K mg base x k m:=by
 obtain ⟨f,fd,ps,h1,h2,h3,h4⟩:=h
 exact ⟨f,fd,ps,h1,h2,h3,h4.mono xR⟩
def gT.mono {P:Program}{w:World}{K:Frag}{mg:Ab}{base:Heap}{c x:Str}{j k:Nat}{m:Al}(h:gT P w K mg base c x j m) (xR:j<=k):gT P w K mg base c x k m:=by
 obtain ⟨C,f,fd,ps,h1,h2,h3,h4,h5⟩:=h
 exact ⟨C,f,fd,ps,h1,h2,h3,h4,h5.mono xR⟩
def kH (K:Frag):Sp:=λvs H Q _=>∃(a:Addr) (ns:List Int),vs=[.ref a]/\aZ K H a (ns.map V.int)/\Only H/\ns.length<=63/\∀H',Q (.bl true) H'
theorem Eh {K:Frag}{mg:Ab}{ρ:Ae}{H:Hp}:∀ns:List Int,Rs K mg ρ H (ns.map PV.int) (ns.map V.int)
 | []=>rfl
 | n::ns=>⟨_,_,rfl,rfl,Eh ns⟩
def O5 {K:Frag}{H:Hp}{a:Addr}{vs:List V}(h:aZ K H a vs) (o:Only H):kD K H a vs:=by
 rcases h with (h|⟨ob,h⟩)|h
 ·rcases o a with z|⟨ob,xs,z⟩
  ·rw [h] at z;cases z
  ·rw [h] at z;cases z
 ·exact .inl ⟨ob,h⟩
 ·exact .inr h
def O6 {P:Program}{w:World}{K:Frag}{mg:Ab}{base:Heap}{k:Nat}{f:Addr}{fd:FuncData}{ps:Ad}{m:Al}(F:bO P w K mg base (cZ P w) k f fd ps (iR K mg m)) (h:∀ns:List Int,ns.length<=63->∃st,m [.frl (ns.map PV.int)] []=.ok (.bl true) st):bO P w K mg base (cZ P w) k f fd ps (kH K) :=
 F.imp λvs H Q E ⟨a,ns,e,hs,ho,hl,q⟩=>by
  subst e
  obtain ⟨st,hm⟩:=h ns hl
  refine ⟨[.frl (ns.map PV.int)],[],[],⟨_,[],rfl,⟨a,_,rfl,O5 hs ho,Eh ns⟩,rfl⟩,⟨rfl,List.nodup_nil,λn so e=>by simp at e⟩,?_⟩
  rw [hm]
  intro ah H' _ _ v rv
  cases rv
  exact q H'
def walkM {l:PySem.W.OpenLaw}{k:Nat}{x:Str}{q:Program}{loose:Ad}{XP:(Ab)->Heap->Prop}{YP:World->Heap->Prop}{d:DefRec}{K:Params->PySem.W.Frag}(hn:l.most=some 63) (pS:d.params.defaults=[]) (hr:bu k callerA)
  (hY:∀(w:World) (h:Heap),YP w h->(K w.params).In h)
  (F:∀(w:World) (mg:Ab) (fa:Addr) (h:Heap),(K w.params).In h->h.Ns mainGlobals mg->mg d.name=some (.ref fa) ->
   ∃fd:FuncData,(∀(s:Shared) (u:Value),BindsTo s fd ⟨[u],[]⟩ [(x,u)])/\∀base:Heap,(K w.params).In base->base.Ns mainGlobals mg->bO l.prog w (K w.params) mg base (cZ l.prog w) k fa fd [x] (kH (K w.params))) :
  PySem.W.WalkO q loose XP YP l.row.toRowW d [] (λf vs=>PySem.call f vs) :=
 L2.zoE (n:=63) (k:=k) (x:=x) (CX:=λw=>cZ l.prog w) (sp:=λw=>kH (K w.params)) hn (by decide) pS hr hY F (λ_ _ a ns hl ho hS=>⟨a,ns,rfl,hS,ho,hl,λ_=>rfl⟩) λw H s e s' ⟨_,_,_,_,_,_,_,_,_,_,_,_,_,_,_,z⟩=>z
section
variable {α β:Type}{env:zj}{st ao:ae}{fa fb fc fo fv:Ai}{fs:Ah}{ga gb:Ak}{g g':Aj}{op Wo:Am}{o1:PV->Mo PV}{m:Al}
@[simp] def zJ (a:α) (f:α->Mo β):(Res.ok a st).bind f=f a st:=(rfl)
@[simp] def Wq (f:α->Mo β):(Res.stuck:Res α).bind f=.stuck:=(rfl)
@[simp] def Wr (p:Prop) [Decidable p] (a b:Res α) (f:α->Mo β):(if p then a else b).bind f=if p then a.bind f else b.bind f:=by split<;>rfl
@[simp] def O7 (i:Nat):zc i env st=(match env[i]? with|some (some x)=>.ok x st|_=>.stuck):=(rfl)
@[simp] def Ws (x:PV):mC x env st=.ok x st:=(rfl)
@[simp] def O8:ze op fa fb env st=(fa env st).bind λx ao=>(fb env ao).bind λy ax=>op x y ax:=(rfl)
@[simp] def O9:wn o1 fa env st=(fa env st).bind o1:=(rfl)
@[simp] def O_:mB fa env st=(fa env st).bind kE:=(rfl)
@[simp] def xS (b:Bool):kE (.bl b) st=.ok b st:=(rfl)
@[simp] def Ei:wI ga gb env st=(ga env st).bind λc ao=>if c=true then gb env ao else .ok false ao:=(rfl)
@[simp] def Ej:jw ga gb env st=(ga env st).bind λc ao=>if c=true then .ok true ao else gb env ao:=(rfl)
@[simp] def Pa:j9 ga env st=(ga env st).bind λc ao=>.ok (!c) ao:=(rfl)
@[simp] def Ek:gQ fa fb env st=(fa env st).bind λx ao=>(kE x ao).bind λc ax=>if c=true then fb env ax else .ok (.bl false) ax:=(rfl)
@[simp] def Wt:zm env st=.ok [] st:=(rfl)
@[simp] def Pb:zd fa fs env st=(fa env st).bind λx ao=>(fs env ao).bind λxs ax=>.ok (x::xs) ax:=(rfl)
@[simp] def Pd:zE fs env st=(fs env st).bind λxs ao=>if xs.length<=lim then .ok (.tup xs) ao else .stuck:=(rfl)
@[simp] def Pe:jb fs env st=(fs env st).bind λxs ao=>if xs.length<=lim then .ok (.ref ao.length) (ao++[.lst xs]) else .stuck:=(rfl)
@[simp] def Pf (fl fu:zj->Mo (Option Int)):wb fa fl fu env st=(fa env st).bind λx ao=>(fl env ao).bind λl ax=>(fu env ax).bind λu aS=>mz x l u aS:=(rfl)
@[simp] def Wu:bU env st=.ok none st:=(rfl)
@[simp] def Pg:bC fa env st=(fa env st).bind xH:=(rfl)
@[simp] def Ph (i:Int):xH (.int i) st=.ok (some i) st:=(rfl)
@[simp] def Pj:zu m fs env st=(fs env st).bind m:=(rfl)
@[simp] def Wv (C:Int->Int->Bool) (f:Int->Int->Int) (i j:Int):opI C f (.int i) (.int j) st=if C i j=true then .ok (.int (f i j)) st else .stuck:=(rfl)
@[simp] def Ww (f:Int->Int->Bool) (i j:Int):sV f (.int i) (.int j) st=.ok (.bl (f i j)) st:=(rfl)
@[simp] def Wx (i j:Int):zT (.int i) (.int j) st=.ok (.int (i+j)) st:=(rfl)
@[simp] def Pk (x y:Str):zT (.str x) (.str y) st=if x.length+y.length<=lim then .ok (.str (x++y)) st else .stuck:=(rfl)
@[simp] def Wy (x:PV):b_ (some x) st=.ok x st:=(rfl)
@[simp] def El (xs:An) (l u:Option Int):mz (.tup xs) l u st=.ok (.tup (cy xs l u)) st:=(rfl)
@[simp] def Wz (xs:An) (l u:Option Int):mz (.frl xs) l u st=.ok (.ref st.length) (st++[.lst (cy xs l u)]):=(rfl)
@[simp] def WA (x y:PV):yi x y st=if plain x=true/\plain y=true/\dep x<=150 then .ok (.bl (bz x y)) st else .stuck:=(rfl)
@[simp] def WB (x y:PV):jL x y st=if plain x=true/\plain y=true/\dep x<=150 then .ok (.bl (!bz x y)) st else .stuck:=(rfl)
@[simp] def Pm:ye env st=.ok (.nx env) st:=(rfl)
@[simp] def Em:zw g g' env st=(g env st).bind (gw g'):=(rfl)
@[simp] def Pn:gw g (.nx env) st=g env st:=(rfl)
@[simp] def Po (x:PV):gw g (.rt x) st=.ok (.rt x) st:=(rfl)
@[simp] def Pp (i:Nat):zG i fa env st=(fa env st).bind λx ao=>.ok (.nx (env.set i (some x))) ao:=(rfl)
@[simp] def Pq:yT fa env st=(fa env st).bind λ_ ao=>.ok (.nx env) ao:=(rfl)
@[simp] def Pu:zV fa env st=(fa env st).bind λx ao=>.ok (.rt x) ao:=(rfl)
@[simp] def En:zZ ga g g' env st=(ga env st).bind λc ao=>if c=true then g env ao else g' env ao:=(rfl)
@[simp] def Pw (i j:Nat) (x y:PV):g2 i j (.tup [x,y]) env=some ((env.set i (some x)).set j (some y)):=(rfl)
@[simp] def Px (x:PV):endOf (.rt x) st=.ok x st:=(rfl)
@[simp] def Py (i:Nat):oB i op fa env st=(zc i env st).bind λx c9=>(fa env c9).bind λy ao=>(op x y ao).bind λz ax=>.ok (.nx (env.set i (some z))) ax:=(rfl)
@[simp] def j7:yQ fa env st=(fa env st).bind gU:=(rfl)
@[simp] def tE (n:Nat):gU (.ref n) st=yx st n λ_=>.ok (.rf n) st:=(rfl)
@[simp] def gX (src:zj->Mo Sq) (gt:PV->zj->Option zj):yU src gt g env st=(src env st).bind λq ao=>qq gt g q env ao:=(rfl)
@[simp] def Pz (gt:PV->zj->Option zj) (xs:An):qq gt g (.im xs) env st=forL gt g xs env st:=(rfl)
@[simp] def WC (gt:PV->zj->Option zj):forL gt g [] env st=.ok (.nx env) st:=(rfl)
@[simp] def WD (x:PV) (xs:An):bK (x::xs)=(Mi.plain x&&bK xs):=(rfl)
@[simp] def WE (x:PV) (xs:An):dk (x::xs)=max (dep x) (dk xs):=(rfl)
@[simp] def mG (a:α):cT (Res.ok a st)=.ok a st:=(rfl)
def yD {n:Nat}{xs:An}(h:st[n]?=some (.lst xs)) (k:List PV->Res α):yx st n k=k xs:=by unfold yx;rw [h]
def xT {n:Nat}{c:Str}{ks:Ad}{xs:An}(h:st[n]?=some (.ins c ks xs)) (k:Str->List Str->List PV->Res α):wo st n k=k c ks xs:=by unfold wo;rw [h]
@[simp] def WG (xs:An) (k:List PV->Res α):yx (st++[.lst xs]) st.length k=k xs:=yD (by simp) k
@[simp] def Eo (f:Str) (i x:Str->Bool) (n:Nat):cS f i x (.ref n) st=wo st n λc ks xs=>if i c=true then b_ ((ks.zip xs).lookup f) st else .stuck:=(rfl)
@[simp] def PB (f:Str) (i:Str->Bool):Mi.sFld f i fo fv env st=(fv env st).bind λx ao=>(fo env ao).bind λo ax=>(putAt f i x o ax).bind λ_ aS=>.ok (.nx env) aS:=(rfl)
@[simp] def PC:yN op fo fv env st=(fo env st).bind λo ao=>(lF o ao).bind λo ao=>(fv env ao).bind λy ax=>op o y ax:=(rfl)
@[simp] def PD (n:Nat):lF (.ref n) st=yx st n λ_=>.ok (.ref n) st:=(rfl)
@[simp] def PF (a b:String):(Str.ofString a=Str.ofString b)↔a=b:=by
 constructor
 ·intro h
  rw [Str.ofString_eq_byList] at h
  have h1:(a.toList.map Char.toNat)=(b.toList.map Char.toNat):=by
   have:=congrArg (λz=>z.cps.toList) h
   simpa [Str.ofStringByList] using this
  apply String.ext_iff.mpr
  exact (List.map_inj_right (λc d e=>Char.toNat_inj.mp e)).mp h1
 ·intro h;rw [h]
def qr (n:Nat):cf ga g (n+1) env st=(ga env st).bind λc ao=>if c=true then (g env ao).bind λfl ax=>match fl with
   | .nx e=>cf ga g n e ax
   | .ct e=>cf ga g n e ax
   | .bk e=>.ok (.nx e) ax
   | .rt v=>.ok (.rt v) ax
  else .ok (.nx env) ao:=rfl
@[simp] def PH:lim=1000000:=(rfl)
end
section
variable {K:Frag}{mg:Ab}{h:Heap}{x:Str}{f C:Addr}{oc:Value}{od an:Option Addr}{fP:Array (Option Value)}{kV doc pm aV ct:Value}{sm:Stmt}{ps:Ad}
def zcP (X:K.In h) (G:h.Ns mainGlobals mg) (a:nsIn K mainGlobals x=some (some (.ref f))) (l:K.lookup f=some ⟨oc,od,.func (fnOf x x (gL sm) (wm sm) (yc sm) .none kV doc pm an aV ct),fP⟩) (c:codeIn K aV x=true) (k:keepIn K (.ref f)=true)
  (b:∀(kV doc pm:Value) (an:Option Addr) (aV ct:Value) (us:Af),us.length=ps.length->bindArgs (fnOf x x (gL sm) (wm sm) (yc sm) .none kV doc pm an aV ct) ⟨us,[]⟩=pure (ps.zip us)):FnF K mg x sm ps :=
 ⟨f,_,mg_of X G a,n_ l c k,(n_ l c k).binds b⟩
def zfl {c name qual:Str} (X:K.In h) (G:h.Ns mainGlobals mg) (aC:nsIn K mainGlobals c=some (some (.ref C))) (pg:plainGet K C Str.empty=true) (hd:hasDictIn K C=true) (po:plainOver K C=true) (sa:findIn K (.ref C) "__setattr__" = some (some (.builtin "object.__setattr__")))
  (a:findIn K (.ref C) name=some (some (.ref f))) (i:isFn K (.ref f)=true) (l:K.lookup f=some ⟨oc,od,.func (fnOf name qual (gL sm) (wm sm) (yc sm) .none kV doc pm an aV ct),fP⟩) (cd:codeIn K aV qual=true) (k:keepIn K (.ref f)=true)
  (b:∀(kV doc pm:Value) (an:Option Addr) (aV ct:Value) (us:Af),us.length=ps.length->bindArgs (fnOf name qual (gL sm) (wm sm) (yc sm) .none kV doc pm an aV ct) ⟨us,[]⟩=pure (ps.zip us)):MtF K mg c name qual sm ps :=
 ⟨C,f,_,mg_of X G aC,⟨pg,hd,po,sa⟩,⟨a,i,k⟩,n_ l cd k,(n_ l cd k).binds b⟩
def zqM {c qual:Str}(X:K.In h) (G:h.Ns mainGlobals mg) (aC:nsIn K mainGlobals c=some (some (.ref C))) (mk:makesIn K C=true) (kc:keepIn K (.ref C)=true)
  (a:findIn K (.ref C) "__init__" = some (some (.ref f))) (i:isFn K (.ref f)=true) (l:K.lookup f=some ⟨oc,od,.func (fnOf "__init__" qual (gL sm) (wm sm) (yc sm) .none kV doc pm an aV ct),fP⟩) (cd:codeIn K aV qual=true) (k:keepIn K (.ref f)=true)
  (b:∀(kV doc pm:Value) (an:Option Addr) (aV ct:Value) (us:Af),us.length=ps.length->bindArgs (fnOf "__init__" qual (gL sm) (wm sm) (yc sm) .none kV doc pm an aV ct) ⟨us,[]⟩=pure (ps.zip us)):NwF K mg c qual sm ps :=
 ⟨C,f,_,mg_of X G aC,⟨mk,a,i,kc⟩,n_ l cd k,(n_ l cd k).binds b⟩
def zis {c fld:Str} (X:K.In h) (G:h.Ns mainGlobals mg) (aC:nsIn K mainGlobals c=some (some (.ref C))) (pg:plainGet K C Str.empty=true) (hd:hasDictIn K C=true) (po:plainOver K C=true) (sa:findIn K (.ref C) "__setattr__" = some (some (.builtin "object.__setattr__"))) (na:findIn K (.ref C) fld=some none) :
  ∃C,mg c=some (.ref C)/\fB K C/\dr K C fld:=⟨C,mg_of X G aC,⟨pg,hd,po,sa⟩,na⟩
def all_cons {α:Type}{P:α->Prop}{a:α}{l:List α}(h:P a) (t:∀p∈l,P p):∀p∈a::l,P p:=λp hp=>by
 rcases yz.mp hp with rfl|hp
 ·exact h
 ·exact t p hp
end
def zqN {P:Program}{w:World}{K:Frag}{mg:Ab}{x y:Str}{sm:Stmt}{fa:Addr}{k:Nat}{m:Al}(h:FnF K mg x sm [y]) (hmg:mg x=some (.ref fa))
  (hb:∀(kV doc pm:Value) (an:Option Addr) (aV ct:Value) (u:Value),bindArgs (fnOf x x (gL sm) (wm sm) (yc sm) .none kV doc pm an aV ct) ⟨[u],[]⟩=pure [(y,u)])
  (hok:∀(f:Addr) (fd:FuncData),e_ K x x sm f fd->∀base:Heap,bO P w K mg base (cZ P w) k f fd [y] (iR K mg m)) (hp:∀ns:List Int,ns.length<=63->∃st,m [.frl (ns.map PV.int)] []=.ok (.bl true) st) :
  ∃fd:FuncData,(∀(s:Shared) (u:Value),BindsTo s fd ⟨[u],[]⟩ [(y,u)])/\∀base:Heap,K.In base->base.Ns mainGlobals mg->bO P w K mg base (cZ P w) k fa fd [y] (kH K):=by
 obtain ⟨f,fd,hm,F,_⟩:=h
 rw [hmg] at hm
 cases hm
 refine ⟨fd,λs u=>?_,λbase _ _=>O6 (hok fa fd F base) hp⟩
 obtain ⟨oc,od,kV,doc,pm,an,aV,ct,fP,rfl,_⟩:=F.ex
 exact .of_eq (hb kV doc pm an aV ct u)
def zqO {K:Frag}{mg:Ab}{h:Heap}{x:Str}(X:K.In h) (G:h.Ns mainGlobals mg) (a:nsIn K mainGlobals x=some none):mg x=none:=mg_none_of X G a
section
variable {X:Cx}{Er:XK}{K:Frag}{mg:Ab}{a b c e o:Expr}{es:List Expr}{pos p apos pos':Pos}{fa fb fc fo:Ai}{fs:Ah}
abbrev kz (ks:Ad) (vs:List V):List (Key×V):=(ks.map Sum.inr).zip vs
theorem xU {z:Str}:∀{ks:Ad}{vs:List V},di (kz ks vs) (Sum.inr z)=(ks.zip vs).lookup z
 | [],_=>by simp [kz,di]
 | k::ks,[]=>by simp [kz,di]
 | k::ks,v::vs=>by
  have ih:=xU (z:=z) (ks:=ks) (vs:=vs)
  by_cases h:k=z
  ·subst h
   rw [show kz (k::ks) (v::vs)=(Sum.inr k,v)::kz ks vs from rfl,sy rfl]
   simp [gd]
  ·rw [show kz (k::ks) (v::vs)=(Sum.inr k,v)::kz ks vs from rfl,sC (by simpa using h),ih]
   have:(z==k)=false:=by simpa using λq=>h q.symm
   simp [gd,this]
theorem Ep {z:Str}:∀{ks:Ad}{vs:List V},ks.length=vs.length->((kz ks vs).any λkv=>decide (kv.1=Sum.inr z))=ks.contains z
 | [],_,_=>by simp [kz]
 | k::ks,[],h=>by simp at h
 | k::ks,v::vs,h=>by
  have ih:=Ep (z:=z) (ks:=ks) (vs:=vs) (by simpa using h)
  rw [show kz (k::ks) (v::vs)=(Sum.inr k,v)::kz ks vs from rfl,List.any_cons,ih,List.contains_cons]
  congr 1
  by_cases hz:k=z
  ·subst hz;simp
  ·have:(z==k)=false:=by simpa using λq=>hz q.symm
   simp [hz,this]
def repl {α:Type}(z:Str) (x:α):List Str->List α->List α
 | k::ks,y::ys=>(if k=z then x else y)::repl z x ks ys
 | _,ys=>ys
def wL (z:Str) (x:PV) (ks:Ad) (xs:An):List Str×List PV:=if ks.contains z=true then (ks,repl z x ks xs) else (ks++[z],xs++[x])
theorem Es {z:Str}{v:V}:∀{ks:Ad}{vs:List V},(kz ks vs).map (λkv=>if kv.1=Sum.inr z then (kv.1,v) else kv)=kz ks (repl z v ks vs)
 | [],_=>by simp [kz]
 | k::ks,[]=>by simp [kz,repl]
 | k::ks,w::vs=>by
  rw [show kz (k::ks) (w::vs)=(Sum.inr k,w)::kz ks vs from rfl,yo,Es,show repl z v (k::ks) (w::vs)=(if k=z then v else w)::repl z v ks vs from rfl,show ∀u us,kz (k::ks) (u::us)=(Sum.inr k,u)::kz ks us from λ_ _=>rfl]
  by_cases h:k=z
  ·subst h;simp
  ·rw [zR (by simpa using h),zR h]
theorem Et {ρ:Ae}{H:Hp}{z:Str}{x:PV}{v:V}(r:R K mg ρ H x v):∀{ks:Ad}{xs:An}{vs:List V},Rs K mg ρ H xs vs->Rs K mg ρ H (repl z x ks xs) (repl z v ks vs)
 | [],xs,vs,h=>by cases xs<;>cases vs<;>exact h
 | k::ks,[],vs,h=>by cases h;exact rfl
 | k::ks,y::ys,vs,h=>by
  obtain ⟨w,ws,rfl,h1,h2⟩:=h
  refine ⟨_,_,rfl,?_,Et r h2⟩
  split
  ·exact r
  ·exact h1
theorem Eu {α:Type}{z:Str}{x:α}:∀{ks:Ad}{xs:List α},(repl z x ks xs).length=xs.length
 | [],xs=>by cases xs<;>rfl
 | k::ks,[]=>rfl
 | k::ks,y::ys=>by simp [repl,Eu (ks:=ks)]
def xV {ρ:Ae}{H:Hp}{z:Str}{x:PV}{v:V}(r:R K mg ρ H x v) {ks:Ad}{xs:An}{vs:List V}(hl:ks.length=vs.length) (h:Rs K mg ρ H xs vs):∃ws,L2.putK (kz ks vs) (Sum.inr z) v=kz (wL z x ks xs).1 ws/\Rs K mg ρ H (wL z x ks xs).2 ws/\(wL z x ks xs).1.length=ws.length:=by
 unfold L2.putK wL
 rw [Ep hl]
 by_cases hc:ks.contains z=true
 ·rw [zF hc,zF hc]
  exact ⟨repl z v ks vs,Es,Et r h,by rw [Eu];exact hl⟩
 ·rw [zR hc,zR hc]
  refine ⟨vs++[v],?_,h.append ⟨v,[],rfl,r,rfl⟩,by simp [hl]⟩
  show _=(List.map Sum.inr (ks++[z])).zip (vs++[v])
  rw [jA,List.zip_append (by simpa using hl)]
  rfl
def qt:Ai:=λ_ st=>.ok (.ref st.length) (st++[.dic [] []])
def zfo:ME X Er (.Dict [] [] pos) qt:=PE.weak Nc λU H Q ⟨env,st,ρ,re,rs,h⟩=>λq hq =>
 h (ρ++[q]) _ (Ext.push hq) (rs.push hq ⟨[],jh,rfl,rfl⟩) _ ⟨q,rfl,by rw [<-rs.len];simp⟩
def PJ:Am
 | .ref n,.str z,st=>jY st n λks xs=>b_ ((ks.zip xs).lookup z) st
 | _,_,_=>.stuck
def zt:Am
 | .ref n,.str z,st=>PJ (.ref n) (.str z) st
 | x,y,st=>xA x y st
def PK:R2:=λx y H Q=>∃a v,x=.ref a/\dU H a y (some v)/\Q v H
def PL (hu:X.A.units+1<cLine):fQ X PK:=by
 intro value slice pins s U H x y v u Q I rx ry h hs
 obtain ⟨a,w,rfl,g,q⟩:=h
 obtain rfl:v=Value.ref a:=rx
 exact PyProof.Rows.tail_any (M9 I g) PySem.F.slot_dict_getitem.lookup (M4 hu I g ry λw' s' I' dG=>⟨w,H,I',dG,q⟩) hs
def R.refD {ρ:Ae}{H:Hp}{st:ae}{n:Nat}{ks:Ad}{xs:An}{v:V}(s:aX K mg ρ H st) (r:R K mg ρ H (.ref n) v) (h:st[n]?=some (.dic ks xs)):∃a vs,v=.ref a/\ρ[n]?=some a/\H a=some (.dK (kz ks vs))/\Rs K mg ρ H xs vs/\ks.length=vs.length:=by
 obtain ⟨a,rfl,ha⟩:=r
 obtain ⟨vs,h1,h2,h3⟩:=s.addr h ha
 exact ⟨a,vs,rfl,ha,h1,h2,h3⟩
def Ew {H:Hp}{a:Addr}{ks:Ad}{vs:List V}{z:Str}(h:H a=some (.dK (kz ks vs))):dU H a (.str z) ((ks.zip vs).lookup z):=by
 have g:=dU.k (k:=Sum.inr z) h
 rw [xU] at g
 exact g
theorem zI (hu:X.A.units+200<cLine):lA X zt:=by
 obtain ⟨r,h1,h2⟩:=Od (X:=X)
 refine ⟨_,h1.or (PL (by omega)),fun ρ H st x y v w Q E s rx ry h=>?_⟩
 by_cases hx:∃n z,x=.ref n/\y=.str z
 ·obtain ⟨n,z,rfl,rfl⟩:=hx
  obtain ⟨ks,xs,e,h⟩:=N0 (show Out X.K X.mg ρ H (jY st n λks xs=>b_ ((ks.zip xs).lookup z) st) (gV X.K X.mg Q) E from h)
  obtain ⟨q,hq,h⟩:=my h
  obtain ⟨a,vs,rfl,_,k1,k2,_⟩:=R.refD s rx e
  cases ry
  obtain ⟨v,hv,rv⟩:=oA k2 hq
  refine .inr ⟨a,v,rfl,?_,h.now s _ rv⟩
  have g:=Ew (z:=z) k1
  rw [hv] at g
  exact g
 ·refine .inl (h2 ρ H st x y v w Q E s rx ry ?_)
  have:zt x y st=xA x y st:=by
   unfold zt
   split
   ·rename_i n z;exact absurd ⟨n,z,rfl,rfl⟩ hx
   ·rfl
  rw [this] at h
  exact h
def wS (z x:PV):PV->Mo Unit
 | .ref n,st=>match z with
  | .str z=>jY st n λks xs=>if ks.length<lim then .ok () (st.set n (.dic (wL z x ks xs).1 (wL z x ks xs).2)) else .stuck
  | _=>.stuck
 | _,_=>.stuck
def iT (fo fi fv:Ai):Aj:=λenv st=>(fv env st).bind λx ao=>(fo env ao).bind λo ax=>(fi env ax).bind λz aS=>(wS z x o aS).bind λ_ fg=>.ok (.nx env) fg
theorem zfp {i value:Expr}{fi fv:Ai}(hu:X.A.units+200<cLine) (ho:ME X Er o fo) (hi:ME X Er i fi) (hv:ME X Er value fv) (hs:swapsWith value (some (.Subscript o i pos')) pos.line X.env=pure false:=by rfl):MS X Er (.Assign [.Subscript o i pos'] value pos) (iT fo fi fv) :=
 PS.weak (Na (by omega) ho hi hv hs) λD U H ⟨env,st,ρ,re,rs,h⟩=>⟨env,st,ρ,re,rs,h.then λaf H1 x ao e1 s1 h1 v rv=>⟨env,ao,af,re.ext e1,s1,h1.then λam H2 y ax e2 s2 h2 w rw=>⟨env,ax,am,(re.ext e1).ext e2,s2,h2.then λaj H3 zz aS e3 s3 h3 u ru=>by
  cases y with
  | ref n =>
   cases zz with
   | str z =>
    cases hn:aS[n]? with
    | none=>simp only [wS,jY,hn] at h3;exact h3.elim
    | some so =>
     cases so with
     | lst _=>simp only [wS,jY,hn] at h3;exact h3.elim
     | ins _ _ _=>simp only [wS,jY,hn] at h3;exact h3.elim
     | fdi _ _=>simp only [wS,jY,hn] at h3;exact h3.elim
     | dit _ _=>simp only [wS,jY,hn] at h3;exact h3.elim
     | dic ks xs =>
      simp only [wS,jY,hn] at h3
      by_cases hc:ks.length<lim
      ·rw [zF hc] at h3
       obtain ⟨a,vs,e4,ha,k1,k2,k3⟩:=R.refD s3 (R.ext e3 _ rw) hn
       subst e4
       cases ru
       obtain ⟨ws,q1,q2,q3⟩:=xV (z:=z) (R.ext e3 x (R.ext e2 x rv)) k3 k2
       have hlen:(kz ks vs).length<sizeLine:=by
        have:(kz ks vs).length=ks.length:=by simp [kz,k3]
        rw [this,sizeLine_eq]
        have:ks.length<1000000:=hc
        omega
       have g:=eQ.k (k:=Sum.inr z) (v:=v) k1 hlen
       have ew:Ext aj H3 aj (upd H3 a (.dK (L2.putK (kz ks vs) (Sum.inr z) v))):=Ext.write k1 rfl
       refine ⟨a,_,rfl,g,h3 aj _ ew (s3.write ha ew ⟨ws,by rw [jh,q1],Rs.ext ew _ q2,q3⟩) U ((((re.ext e1).ext e2).ext e3).ext ew)⟩
      ·rw [zR hc] at h3;exact h3.elim
   | _=>exact h3.elim
  | _=>exact h3.elim⟩⟩⟩
end
open Classical in
noncomputable def dF (K:Frag) (mg:Ab) (ρ:Ae) (H:Hp) (ys:An) (x:PV) (u:Value):Bool:=decide (∃y v,y∈ys/\R K mg ρ H y v/\RelV v u/\bz y x=true)
section
variable {X:Cx}{Er:XK}{K:Frag}{mg:Ab}{ρ:Ae}{pins:Ac}{U:L2.St}{H:Hp}{s:Shared}
def okIn (x:PV) (ys:An):Prop:=Mi.plain x=true/\bK ys=true/\dk ys<=150
instance (x:PV) (ys:An):Decidable (okIn x ys):=by unfold okIn;infer_instance
theorem Rs.mem:∀{xs:An}{vs:List V}{us:Af}{u:Value},Rs K mg ρ H xs vs->Vals vs us->u∈us->∃y v,y∈xs/\R K mg ρ H y v/\RelV v u
 | [],_,_,_,h,hv,hu=>by cases h;cases hv;cases hu
 | x::xs,_,_,u,h,hv,hu=>by
  obtain ⟨v,r,rfl,h1,h2⟩:=h
  cases hv with
  | cons r1 r2 =>
   rcases yz.mp hu with rfl|hu
   ·exact ⟨x,v,by simp,h1,r1⟩
   ·obtain ⟨y,w,q1,q2,q3⟩:=Rs.mem h2 r2 hu
    exact ⟨y,w,by simp [q1],q2,q3⟩
theorem Rs.mem':∀{xs:An}{vs:List V}{us:Af}{y:PV},Rs K mg ρ H xs vs->Vals vs us->y∈xs->∃u v,u∈us/\R K mg ρ H y v/\RelV v u
 | [],_,_,_,_,_,hy=>by cases hy
 | x::xs,_,_,y,h,hv,hy=>by
  obtain ⟨v,r,rfl,h1,h2⟩:=h
  cases hv with
  | cons r1 r2 =>
   rcases yz.mp hy with rfl|hy
   ·exact ⟨_,v,by simp,h1,r1⟩
   ·obtain ⟨u,w,q1,q2,q3⟩:=Rs.mem' h2 r2 hy
    exact ⟨u,w,by simp [q1],q2,q3⟩
def PN {ys:An}{y:PV}(h:bK ys=true) (hy:y∈ys):Mi.plain y=true:=by
 obtain ⟨i,hi⟩:=List.getElem?_of_mem hy
 exact sW h hi
def PQ {ys:An}{y:PV}(hy:y∈ys):dep y<=dk ys:=by
 obtain ⟨i,hi⟩:=List.getElem?_of_mem hy
 exact xB hi
open Classical in
theorem tF (I:Inv X pins U H s) {A:Around}(hu:A.units+200<cLine) {ys:An}{vs:List V}{us:Af}{x:PV}{w:V}{v:Value}(ok:okIn x ys) (ry:Rs X.K mg ρ H ys vs) (rv:Vals vs us) (rx:R X.K mg ρ H x w) (rw:RelV w v) :
  (∀u∈us,SeqAt.EqAt A.in1 s u v (dF X.K mg ρ H ys x u))/\us.any (dF X.K mg ρ H ys x)=ys.any λy=>bz y x:=by
 obtain ⟨px,py,hd⟩:=ok
 have one:∀y v' u,y∈ys->R X.K mg ρ H y v'->RelV v' u->SeqAt.EqAt A.in1 s u v (bz y x):=λy v' u hy r1 r2 =>
  (xC I 150 y x A.in1 (jr (PQ hy) hd) (PN py hy) px r1 rx r2 rw (by rw [sX];omega)).1
 refine ⟨λu Ex=>?_,?_⟩
 ·obtain ⟨y,v',q1,q2,q3⟩:=Rs.mem ry rv Ex
  by_cases h:∃y v,y∈ys/\R X.K mg ρ H y v/\RelV v u/\bz y x=true
  ·have e:dF X.K mg ρ H ys x u=true:=by simpa [dF] using h
   obtain ⟨y2,v2,z1,z2,z3,z4⟩:=h
   rw [e,<-z4]
   exact one y2 v2 u z1 z2 z3
  ·have e:dF X.K mg ρ H ys x u=false:=by unfold dF;exact jC h
   rw [e]
   have:bz y x=false:=by
    cases hq:bz y x with
    | false=>rfl
    | true=>exact absurd ⟨y,v',q1,q2,q3,hq⟩ h
   rw [<-this]
   exact one y v' u q1 q2 q3
 ·rw [Bool.eq_iff_iff]
  simp only [List.any_eq_true]
  constructor
  ·rintro ⟨u,Ex,he⟩
   have h:∃y v,y∈ys/\R X.K mg ρ H y v/\RelV v u/\bz y x=true:=by unfold dF at he;exact of_decide_eq_true he
   obtain ⟨y,v',z1,_,_,z4⟩:=h
   exact ⟨y,z1,z4⟩
  ·rintro ⟨y,hy,he⟩
   obtain ⟨u,v',q1,q2,q3⟩:=Rs.mem' ry rv hy
   exact ⟨u,q1,by unfold dF;exact jJ ⟨y,v',hy,q2,q3,he⟩⟩
def yS (neg:Bool):Am
 | x,.tup ys,st=>if okIn x ys then .ok (.bl (neg.xor (ys.any λy=>bz y x))) st else .stuck
 | x,.frl ys,st=>if okIn x ys then .ok (.bl (neg.xor (ys.any λy=>bz y x))) st else .stuck
 | x,.ref n,st=>match st[n]?,x with
  | some (.lst ys),x=>if okIn x ys then .ok (.bl (neg.xor (ys.any λy=>bz y x))) st else .stuck
  | some (.dic ks xs),.str z=>.ok (.bl (neg.xor ((ks.zip xs).lookup z).isSome)) st
  | _,_=>.stuck
 | .str ⟨⟨[c]⟩⟩,.str z,st=>.ok (.bl (neg.xor (decide (c∈z.cps.toList)))) st
 | _,_,_=>.stuck
def xW (K:Frag) (mg:Ab) (neg:Bool):R2:=λv w H Q =>
 (∃ρ x ys vs p,okIn x ys/\w=.ref p/\(aZ K H p vs\/a5 K H p vs)/\Rs K mg ρ H ys vs/\R K mg ρ H x v/\Q (.bl (neg.xor (ys.any λy=>bz y x))) H) \/
 (∃p o,w=.ref p/\dU H p v o/\Q (.bl (neg.xor o.isSome)) H)\/∃(c:Nat) (z:Str),v=.str ⟨#[c]⟩/\w=.str z/\Q (.bl (neg.xor (decide (c∈z.cps.toList)))) H
def PU (hu:X.A.units+200<cLine):bf X (compareOp .In) (xW X.K X.mg false):=by
 intro pins s U H x y v u Q I rx ry h
 rcases h with ⟨ρ,a,ys,vs,p,ok,rfl,hq,qu,ra,q⟩|⟨p,o,rfl,g,q⟩|⟨c,z,rfl,rfl,q⟩
 ·obtain rfl:u=Value.ref p:=ry
  rcases hq with hq|hq
  ·obtain ⟨its,r,pl,_⟩:=I.list hq
   obtain ⟨f1,f2⟩:=tF I hu ok qu r ra rx
   refine SeqAt.in_listAt (dF X.K X.mg ρ H ys a) pl.isList (λw hw=>f1 w (by simpa using hw)) ⟨.bl _,H,I,rfl,?_⟩
   rw [show its.toArray.any (dF X.K X.mg ρ H ys a)=its.any (dF X.K X.mg ρ H ys a) by simp,f2]
   simpa using q
  ·obtain ⟨its,r,pl,_⟩:=I.tuple hq
   obtain ⟨f1,f2⟩:=tF I hu ok qu r ra rx
   refine SeqAt.in_tupleAt (dF X.K X.mg ρ H ys a) pl (λw hw=>f1 w (by simpa using hw)) ⟨.bl _,H,I,rfl,?_⟩
   rw [show its.toArray.any (dF X.K X.mg ρ H ys a)=its.any (dF X.K X.mg ρ H ys a) by simp,f2]
   simpa using q
 ·obtain rfl:u=Value.ref p:=ry
  exact M5 (by omega) I g rx λs' I'=>⟨.bl o.isSome,H,I',rfl,by simpa using q⟩
 ·exact M0 pins s U H _ _ v u Q I rx ry ⟨c,z,rfl,rfl,by simpa using q⟩
def PX (hu:X.A.units+200<cLine):bf X (compareOp .NotIn) (xW X.K X.mg true):=by
 intro pins s U H x y v u Q I rx ry h
 rcases h with ⟨ρ,a,ys,vs,p,ok,rfl,hq,qu,ra,q⟩|⟨p,o,rfl,g,q⟩|⟨c,z,rfl,rfl,q⟩
 ·obtain rfl:u=Value.ref p:=ry
  rcases hq with hq|hq
  ·obtain ⟨its,r,pl,_⟩:=I.list hq
   obtain ⟨f1,f2⟩:=tF I hu ok qu r ra rx
   refine SeqAt.notIn_listAt (dF X.K X.mg ρ H ys a) pl.isList (λw hw=>f1 w (by simpa using hw)) ⟨.bl _,H,I,rfl,?_⟩
   rw [show its.toArray.any (dF X.K X.mg ρ H ys a)=its.any (dF X.K X.mg ρ H ys a) by simp,f2]
   simpa using q
  ·obtain ⟨its,r,pl,_⟩:=I.tuple hq
   obtain ⟨f1,f2⟩:=tF I hu ok qu r ra rx
   refine SeqAt.notIn_tupleAt (dF X.K X.mg ρ H ys a) pl (λw hw=>f1 w (by simpa using hw)) ⟨.bl _,H,I,rfl,?_⟩
   rw [show its.toArray.any (dF X.K X.mg ρ H ys a)=its.any (dF X.K X.mg ρ H ys a) by simp,f2]
   simpa using q
 ·obtain rfl:u=Value.ref p:=ry
  exact M6 (by omega) I g rx λs' I'=>⟨.bl (!o.isSome),H,I',rfl,by simpa using q⟩
 ·refine L2.zon pins s U H _ _ v u Q I rx ry ⟨_,_,rfl,rfl,?_⟩
  rw [StrLaws.found_one]
  simpa using q
def Ey {neg:Bool}:fI K mg (xW K mg neg) (yS neg):=by
 intro ρ H st x y v w Q E s rx ry h
 cases y with
 | tup ys =>
  obtain ⟨p,vs,rfl,k1,k2⟩:=ry
  obtain ⟨ok,h⟩:=Out.ifp (show Out K mg ρ H (if okIn x ys then .ok (.bl (neg.xor (ys.any λy=>bz y x))) st else .stuck) (gV K mg Q) E from by cases x<;>exact h)
  exact .inl ⟨ρ,x,ys,vs,p,ok,rfl,.inr k1,k2,rx,h.now s _ rfl⟩
 | frl ys =>
  obtain ⟨p,vs,rfl,k1,k2⟩:=ry
  obtain ⟨ok,h⟩:=Out.ifp (show Out K mg ρ H (if okIn x ys then .ok (.bl (neg.xor (ys.any λy=>bz y x))) st else .stuck) (gV K mg Q) E from by cases x<;>exact h)
  exact .inl ⟨ρ,x,ys,vs,p,ok,rfl,.inl k1.sq,k2,rx,h.now s _ rfl⟩
 | ref n =>
  cases hn:st[n]? with
  | none=>exfalso;cases x<;>(simp only [yS,hn] at h;exact h)
  | some so =>
   cases so with
   | lst ys =>
    obtain ⟨p,vs,rfl,_,k1,k2⟩:=R.refL s ry hn
    obtain ⟨ok,h⟩:=Out.ifp (show Out K mg ρ H (if okIn x ys then .ok (.bl (neg.xor (ys.any λy=>bz y x))) st else .stuck) (gV K mg Q) E from by cases x<;>(simp only [yS,hn] at h;exact h))
    exact .inl ⟨ρ,x,ys,vs,p,ok,rfl,.inl (aZ.of k1),k2,rx,h.now s _ rfl⟩
   | dic ks xs =>
    obtain ⟨p,vs,rfl,_,k1,k2,k3⟩:=R.refD s ry hn
    cases x with
    | str z =>
     simp only [yS,hn] at h
     cases rx
     refine .inr (.inl ⟨p,_,rfl,Ew k1,?_⟩)
     have e:((ks.zip vs).lookup z).isSome=((ks.zip xs).lookup z).isSome:=by
      cases hq:(ks.zip xs).lookup z with
      | some q=>obtain ⟨v,hv,_⟩:=oA k2 hq;rw [hv];rfl
      | none =>
       have:z∉ks:=by
        intro hz
        obtain ⟨i,hi⟩:=List.getElem?_of_mem hz
        have hl:i<xs.length:=by rw [k2.len,<-k3];exact (yl.mp hi).1
        have:=List.lookup_eq_none_iff.mp hq (z,xs[i]) (List.mem_iff_getElem?.mpr ⟨i,by simp [List.getElem?_zip_eq_some,hi,hl]⟩)
        simp at this
       rw [xM this];rfl
     rw [e]
     exact h.now s _ rfl
    | _=>simp only [yS,hn] at h;exact h.elim
   | ins c ks xs=>exfalso;cases x<;>(simp only [yS,hn] at h;exact h)
   | fdi ks xs=>exfalso;cases x<;>(simp only [yS,hn] at h;exact h)
   | dit ks xs=>exfalso;cases x<;>(simp only [yS,hn] at h;exact h)
 | str z =>
  cases x with
  | str q =>
   obtain ⟨⟨l⟩⟩:=q
   match l,rx,h with
   | [c],rx,h=>cases rx;cases ry;exact .inr (.inr ⟨c,z,rfl,rfl,Out.now (x:=PV.bl _) h s _ rfl⟩)
   | [],rx,h=>exact h.elim
   | _::_::_,rx,h=>exact h.elim
  | _=>exact h.elim
 | non=>exfalso;cases x<;>exact h
 | bl _=>exfalso;cases x<;>exact h
 | int _=>exfalso;cases x<;>exact h
 | ty _=>exfalso;cases x<;>exact h
 | fn _=>exfalso;cases x<;>exact h
 | kd _ _=>exfalso;cases x<;>exact h
 | exo _ _ _=>exfalso;cases x<;>exact h
def zdR (hu:X.A.units+200<cLine):b3 X .In (yS false):=⟨_,PU hu,Ey⟩
def zdS (hu:X.A.units+200<cLine):b3 X .NotIn (yS true):=⟨_,PX hu,Ey⟩
abbrev xX:=opI c0 λi j=>Builtin.bitAnd i j
abbrev mH:=opI c0 λi j=>Builtin.bitOr i j
abbrev kI:=opI dD λi j=>i*2 ^ j.toNat
abbrev qv:Int->Int->Bool:=λ_ j=>decide (0<=j)
abbrev xY:=opI qv λi j=>i/2 ^ j.toNat
def zqW:cP X .BitAnd xX:=⟨_,xt K4,kF λ_ _ _=>trivial⟩
def zft:cP X .BitOr mH:=⟨_,xt K5,kF λ_ _ _=>trivial⟩
def zdT:cP X .LShift kI:=⟨_,KZ,kF λi j h=>by simp [dD] at h;exact ⟨h.1.1,h.1.2,h.2⟩⟩
def zqX:cP X .RShift xY:=⟨_,K0,kF λi j h=>by simpa [qv] using h⟩
end
section
variable {X:Cx}{Er:XK}{pos:Pos}
abbrev XN:XK:=λ_ _ _=>False
def PY:iO X XN:=λ_ _ _ _ _ _ _ _ _ q=>q.elim
def cU (fe:Ai) (env:zj):List PV->Al
 | [],ys,st=>.ok (.ref st.length) (st++[.lst ys])
 | x::xs,ys,st=>(cT (fe (some x::env) st)).bind λy ao=>cU fe env xs (ys++[y]) ao
def kJ (fe:Ai) (env:zj) (n:Nat):Nat->Nat->Al
 | 0,_,_,_=>.stuck
 | m+1,i,ys,st=>yx st n λxs=>match xs[i]? with
  | none=>.ok (.ref st.length) (st++[.lst ys])
  | some x=>(cT (fe (some x::env) st)).bind λy ao=>kJ fe env n m (i+1) (ys++[y]) ao
def mI (fe:Ai) (env:zj):Sq->Mo PV
 | .im xs,st=>if xs.length<=lim then cU fe env xs [] st else .stuck
 | .rf n,st=>kJ fe env n (lim+1) 0 [] st
def jD (src:zj->Mo Sq) (fe:Ai):Ai:=λenv st=>(src env st).bind λq ao=>mI fe env q ao
theorem Rs.snoc {K:Frag}{mg:Ab}{ρ:Ae}{H:Hp}{x:PV}{v:V}(r:R K mg ρ H x v):∀{xs:An}{vs:List V},Rs K mg ρ H xs vs->Rs K mg ρ H (xs++[x]) (vs++[v])
 | [],_,h=>by cases h;exact ⟨v,[],rfl,r,rfl⟩
 | y::xs,_,h=>by
  obtain ⟨w,q,rfl,h1,h2⟩:=h
  exact ⟨w,q++[v],rfl,h1,Rs.snoc r h2⟩
theorem Ez {elt iter:Expr} {x:Str} {px:Pos} {scope:Scope} {src:zj->Mo Sq} {fe:Ai} {M:Ad} (hc:X.calm=true) (S:du X.env.scope scope x) (eN:Hid scope M X.N) (cH:((".0" : Str)::x::M).Nodup)
  (hi:MI X Er (.Name x px) iter src) (he:∀cl C aa ag fp,ME (lg X M scope cl x C aa ag fp (λ_ _=>False)) XN elt fe)
  (hs:∀v,foldedSetIterable iter X.env v=pure v:=by intro _;rfl):ME X Er (.ListComp elt [⟨.Name x px,iter,[],0⟩] scope pos) (jD src fe) :=
 PE.weak (MU (te:=tM X.K X.mg XN fe) hc S eN cH hi (λcl C aa ag fp=>he cl C aa ag fp) hs) λU H Q ⟨env,st,ρ,re,rs,h⟩=>⟨env,st,ρ,re,rs,h.then λap H0 q c9 e0 s0 h0 J wk=>by
  cases q with
  | im xs =>
   obtain ⟨hl,h0⟩:=Out.ifp h0
   obtain ⟨w1,w2,w3⟩:=wk
   refine ⟨λi m ys H=>m=xs.length-i/\i<=xs.length/\ys.length=i/\∃ps st ρ,Rs X.K X.mg ρ H ps ys/\aX X.K X.mg ρ H st/\Ext ap H0 ρ H/\Out X.K X.mg ρ H (cU fe env (xs.drop i) ps st) (gV X.K X.mg Q) Er,⟨xs.length,by simp,js _,rfl,[],c9,ap,rfl,s0,Ext.refl,h0⟩,?_⟩
   rintro i m ys H ⟨rfl,hi,hy,ps,st,ρ,cM,rs,ex,h⟩
   by_cases bh:i<xs.length
   ·refine .inr ⟨w1 i ρ H ex bh,jn (by omega),λv H' y=>?_⟩
    obtain ⟨x,hx,bP,s2,rx⟩:=w3 i ρ H st v H' ex rs bh y
    have hd:xs.drop i=x::xs.drop (i+1):=by
     rw [j8 bh]
     have:=(yl.mp hx).2
     rw [this]
    rw [hd] at h
    simp only [cU] at h
    refine ⟨some x::env,st,ρ,(re.ext (e0.trans (ex.trans bP))).cons rx,s2,gW (Out.ext h bP) λaj H3 y aS e3 s3 h3 v ry=>⟨xs.length-(i+1),by omega,rfl,bh,by simp [hy],ps++[y],aS,aj,Rs.snoc ry (Rs.ext (bP.trans e3) ps cM),s3,(ex.trans bP).trans e3,h3⟩⟩
   ·have e:i=xs.length:=by omega
    subst e
    rw [List.drop_length] at h
    exact .inl ⟨w2 _ ρ H ex (yk _),jn (by omega),λl hl=>Out.newList h rs cM hl⟩
  | rf n =>
   obtain ⟨a,ha,rfl⟩:=wk
   refine ⟨λi m ys H=>m+i=lim+1/\ys.length=i/\∃ps st ρ,Rs X.K X.mg ρ H ps ys/\aX X.K X.mg ρ H st/\Ext ap H0 ρ H/\ρ[n]?=some a/\Out X.K X.mg ρ H (kJ fe env n m i ps st) (gV X.K X.mg Q) Er,⟨lim+1,rfl,rfl,[],c9,ap,rfl,s0,Ext.refl,ha,h0⟩,?_⟩
   rintro i m ys H ⟨hm,hy,ps,st,ρ,cM,rs,ex,ha,h⟩
   cases m with
   | zero=>exact h.elim
   | succ m =>
    obtain ⟨xs,hn,h⟩:=jK h
    obtain ⟨vs,hH,hR⟩:=rs.addr hn ha
    cases hx:xs[i]? with
    | none =>
     simp only [hx] at h
     have:vs.length<=i:=by rw [<-hR.len];exact lU.mp hx
     exact .inl ⟨⟨vs,aZ.of hH,this⟩,jn (by omega),λl hl=>Out.newList h rs cM hl⟩
    | some x =>
     simp only [hx] at h
     obtain ⟨v,hv,rv⟩:=hR.get hx
     refine .inr ⟨⟨vs,v,aZ.of hH,hv⟩,jn (by omega),λv' H' y=>?_⟩
     obtain ⟨e1,y⟩:=y
     subst e1
     have e2:=y vs (aZ.of hH)
     rw [hv] at e2
     cases e2
     exact ⟨some x::env,st,ρ,(re.ext (e0.trans ex)).cons rv,rs,gW h λaj H3 y aS e3 s3 h3 v ry=>⟨m,wv m,by omega,by simp [hy],ps++[y],aS,aj,Rs.snoc ry (Rs.ext e3 ps cM),s3,ex.trans e3,e3.get ha,h3⟩⟩⟩
def qw {elt iter:Expr} {x:Str} {px:Pos} {scope:Scope} {src:zj->Mo Sq} {fe:Ai} {N:Ad} (hc:X.calm=true) (S:du X.env.scope scope x) (eN:X.N=N) (cH:((".0" : Str)::x::N).Nodup)
  (hi:MI X Er (.Name x px) iter src) (he:∀cl C aa ag fp,ME (Dp X scope cl x C aa ag fp (λ_ _=>False)) XN elt fe)
  (hs:∀v,foldedSetIterable iter X.env v=pure v:=by intro _;rfl):ME X Er (.ListComp elt [⟨.Name x px,iter,[],0⟩] scope pos) (jD src fe) :=
 Ez hc S Hid.refl (eN▸cH) hi he hs
end
section
variable {env:Env}{es:List Expr}{pos:Pos}
abbrev EA (e:Expr) (es:List Expr) (env:Env):Prop:=starEach (e::es) env=(false,eval e env)::starEach es env
def PZ {c j}:EA (.Constant c j pos) es env:=(rfl)
end
end Mi
namespace L2
open PySem PySem.Spec PyProof.Rows PySem.W
abbrev ZB (h:Heap) (z TI TO T:Addr) (f:Bool):Prop:=h.get? z=some { cls:=.type "zip", dict:=none,data:=.fields #[rawInt T,.bool f,.bool false,.ref TI,.ref TO],slots:=#[] }
section
variable {prog:Program}{w:World}{A:Around}{E:Aa}{s:Shared}{z TI TO T i1 i2 t1 t2:Addr}{k:Nat}{xs ys:Array Value}{x y a b:Value}{S1 S2:Nat->Heap->Prop}{f:Bool}{o:Obj}
end
structure ZS (z TI TO i1 i2 a b:Addr) (xs ys:Array Value) (k:Nat) (h:Heap):Prop where
 zi:(IsZip h z TI TO .none/\∃u v,IsPair h TO u v)\/∃T f o,ZB h z TI TO T f/\h.get? T=some o
 ti:IsPair h TI (.ref i1) (.ref i2)
 s1:qf i1 a xs k h
 s2:qf i2 b ys k h
section
variable {prog:Program}{w:World}{A:Around}{E:Aa}{s:Shared}{z TI TO i1 i2 a b:Addr}{k:Nat}{xs ys:Array Value}{x y:Value}
end
def putAll (ps:List (Key×V)) (kvs:List (Key×V)):List (Key×V):=ps.foldl (λm p=>putK m p.1 p.2) kvs
structure Ap (d z TI TO i1 i2 a b:Addr):Prop where
 z:d≠z
 TI:d≠TI
 TO:d≠TO
 i1:d≠i1
 i2:d≠i2
 a:d≠a
 b:d≠b
section
variable {prog:Program}{w:World}{A:Around}{R:Result->Shared->Prop}{z TI TO i1 i2 a b d:Addr}{xs ys:Array Value}{keys:List Key}{vals:List V}
end
section
variable {prog:Program}{w:World}{A:Around}{E:Aa}{s:Shared}{z TI TO i1 i2 a b:Addr}{xs ys:Array Value}{keys:List Key}{vals:List V}
end
end L2
namespace Mi
open PySem L2 PySem.W PySem.Spec
section
variable {X:Cx}{K:Frag}{mg:Ab}{Er:XK}{e o:Expr}{es:List Expr}{pos p apos:Pos}{k:Nat}{x:Str}{m:Al}{fs:Ah}{fo fa:Ai}
end
section
variable {X:Cx}{K:Frag}{mg:Ab}{Er:XK}{e o:Expr}{es:List Expr}{pos p apos:Pos}{fs:Ah}{fo fa:Ai}
def lG:List (Str×PV)->List Str->List PV->List Str×List PV
 | [],ks,xs=>(ks,xs)
 | q::r,ks,xs=>lG r (wL q.1 q.2 ks xs).1 (wL q.1 q.2 ks xs).2
theorem EC {ρ:Ae}{H:Hp}:∀{zs:Ad}{ys:An}{us:List V}{ks:Ad}{xs:An}{vs:List V},Rs K mg ρ H ys us->Rs K mg ρ H xs vs->ks.length=vs.length ->
  ∃ws,putAll ((zs.map Sum.inr:List Key).zip us) (kz ks vs)=kz (lG (zs.zip ys) ks xs).1 ws/\Rs K mg ρ H (lG (zs.zip ys) ks xs).2 ws/\(lG (zs.zip ys) ks xs).1.length=ws.length
 | [],ys,us,ks,xs,vs,_,h,hl=>⟨vs,rfl,h,hl⟩
 | z::zs,[],us,ks,xs,vs,hy,h,hl=>by
  cases hy
  exact ⟨vs,rfl,h,hl⟩
 | z::zs,y::ys,us,ks,xs,vs,hy,h,hl=>by
  obtain ⟨u,r,rfl,h1,h2⟩:=hy
  obtain ⟨ws,q1,q2,q3⟩:=xV (z:=z) h1 hl h
  obtain ⟨P1,p1,p2,p3⟩:=EC (zs:=zs) h2 q2 q3
  refine ⟨P1,?_,p2,p3⟩
  show putAll _ (L2.putK (kz ks vs) (Sum.inr z) u)=_
  rw [q1]
  exact p1
end
end Mi
namespace L2
open PySem PySem.Spec PyProof.Rows PySem.W
def ED (K:Frag) (a:Addr):It :=
 ⟨λi H=>∃xs x,aZ K H a xs/\xs[i]?=some x,
  λi H v H'=>∃T x,H T=none/\v=.ref T/\H'=upd H T (.tup [.int i,x])/\∀xs,aZ K H a xs->xs[i]?=some x,
  λi H=>∃xs,aZ K H a xs/\xs.length<=i⟩
def P2 (e it a:Addr) (k:Nat) (h:Heap):Prop:=(∃old,IsEnum h e it k old)/\h.IsListIter it a k
def P4 {X:Cx}{pins:Ac}{U:St}{H:Hp}{s:Shared}{a c:Addr}{xs:List V}(I:Inv X pins U H s) (hf:df X pins H c) (hq:aZ X.K H a xs):a≠c:=by
 rintro rfl
 rcases hq with q|⟨o,its,n,hl,_⟩
 ·rcases q with q|⟨ob,q⟩<;>(rw [hf.1] at q;cases q)
 ·have e:=I.ok.mod.kin _ _ hl
  rcases hf.2.2.2.1 with z|z
  ·exact I.ok.noex _ _ e z
  ·exact absurd (jW (yF (I.ok.bs _ _ e).1) z) (Nat.lt_irrefl _)
def P5 {P:Program}{w:World}{K:Frag}{elts:List Expr}{kt:Nat}{pos:Pos}{e it a:Addr}(ne:e≠it):Turn P w K (.Tuple elts kt pos) (ED K a) [e,it] e (P2 e it a) where
 mem:=by simp
 obj:=λi h st c hc=>by
  obtain ⟨⟨old,he⟩,⟨o1,e1,_,d1⟩⟩:=st
  simp only [yz,List.not_mem_nil,gy] at hc
  rcases hc with q|q<;>rw [q]
  ·exact ⟨_,he,λv z=>by cases z⟩
  ·exact ⟨_,e1,λv z=>by rw [d1] at z;cases z⟩
 keep:=λi h h' st k=>by
  obtain ⟨⟨old,he⟩,⟨o1,e1,r1⟩⟩:=st
  exact ⟨⟨old,k e (by simp) _ he⟩,⟨o1,k it (by simp) _ e1,r1⟩⟩
 item:=by
  intro X hP hw hK hc i pins s U H E I hf st hg
  subst hP hw hK
  obtain ⟨xs,x,hq,hx⟩:=hg
  obtain ⟨⟨old,he⟩,hit⟩:=st
  obtain ⟨its,rv,p,hz⟩:=I.list hq
  obtain ⟨u,hu,ru⟩:=rv.get hx
  have n1:∀c∈[e,it],a≠c:=λc h=>P4 I (hf c h) hq
  refine wpAny_pyNext_enum_item he hit p.isList (x:=u) (by simpa using hu) ne λh1 eo qx pT hsz kk=>⟨_,rfl,?_⟩
  refine wpAny_letOwnedTupleGo_enum (s:={ s with heap:=h1,toks:=s.toks+1 }) eo λh2 e2 sb=>?_
  have fr:H s.heap.objs.size=none:=I.hok.fresh (yk _)
  have up:∀c o,c≠e->h1.get? c=some o->h2.get? c=some o:=λc o n q=>sb.extBut _ _ n q
  have nz:s.heap.objs.size≠e:=Nat.ne_of_gt (yF he)
  have k2:∀c o,c∉[e,it]->s.heap.get? c=some o->h2.get? c=some o:=λc o nc q=>up c o (λz=>nc (by simp [z])) (kk c o (λz=>nc (by simp [z])) (λz=>nc (by simp [z])) q)
  refine ⟨.ref s.heap.objs.size,upd H s.heap.objs.size (.tup [.int i,x]),?_,rfl,⟨s.heap.objs.size,x,fr,rfl,rfl,λys hy=>by rw [I.list_inj hy hq];exact hx⟩,?_,λc cX=>?_⟩
  ·exact Inv.turnN (s:=s) (h':=h2) (t':=s.toks+1) I hf k2 (yk _) ⟨show 2<=sizeLine by decide,[.int i s.toks,u],.cons ⟨_,rfl⟩ (.cons ru .nil),_,up _ _ nz pT,rfl,_,rfl⟩
  ·refine ⟨⟨u,by rw [show ((i+1:Nat):Int)=(i:Int)+1 from rfl];exact e2⟩,let ⟨o,q,r⟩:=qx;⟨o,up _ _ ne.symm q,r⟩⟩
  ·have lt:∃o,s.heap.get? c=some o:=by
    simp only [yz,List.not_mem_nil,gy] at cX
    rcases cX with q|q<;>rw [q]
    ·exact ⟨_,he⟩
    ·exact let ⟨o,q,_⟩:=hit;⟨o,q⟩
   obtain ⟨o,q⟩:=lt
   have z:c≠s.heap.objs.size:=jg (yF q)
   rw [yE z]
   exact (hf c cX).1
 done:=by
  intro X hP hw hK hc i pins s U H E I hf st hg
  subst hP hw hK
  obtain ⟨xs,hq,hx⟩:=hg
  obtain ⟨⟨old,he⟩,hit⟩:=st
  obtain ⟨its,rv,p,hz⟩:=I.list hq
  have hl:=rv.length
  refine wpAny_pyNext_enum_end (I.ok.hd hc) he hit p.isList (by simp;omega) λh' eb=>⟨rfl,?_⟩
  exact Inv.turnL (ch:=[e,it]) (t':=s.toks) I hf λc o nc q=>eb c o (λz=>nc (by simp [z])) q
 self:=λ_ _ _ _ _ st h=>by
  obtain ⟨⟨old,he⟩,_⟩:=st
  exact wpAny_pyIter_enum he h
theorem EE:bootBuiltins "enumerate" = some (.type "enumerate"):=by decide +kernel
def P6 (K:Frag) (ta:TA):TI:=λU H R=>ta U H λvs H1=>∃a,vs=[.ref a]/\(∃xs,aZ K H1 a xs)/\R (ED K a) H1
theorem P7 {X:Cx} {elts:List Expr} {kt:Nat} {tp:Pos} {x:Expr} {ta:TA} {p pos:Pos} (hg:Gl X "enumerate") (hm:X.mg "enumerate" = none) (ha:PA X [x] ta) (hs:starEach [x] X.env=[(false,eval x X.env)]:=by rfl) :
  PI X (.Tuple elts kt tp) (.Call (.Name "enumerate" p) [x] [] pos) (P6 X.K ta):=by
 intro pins s U H R I h
 refine Call_ (lV I hg hm EE (PyProof.Rows.callWith_type1 (aO (ha pos pins s U H _ I h) λus s1 ⟨vs,H1,I1,r1,q1⟩=>?_) hs rfl))
 obtain ⟨a,e,⟨xs,hq⟩,q⟩:=q1
 subst e
 obtain ⟨u,rfl,ru⟩:=r1.one
 obtain rfl:u=Value.ref a:=ru
 obtain ⟨its,_,p1,_⟩:=I1.list hq
 refine call_enumerate_list p1.isList λh' he hit hsz kk=>wpAny_pyIter_enum he ?_
 have ne:∀(n:Nat),n+1≠n:=λn z=>by omega
 refine ⟨_,[s1.heap.objs.size+1,s1.heap.objs.size],_,_,H1,rfl,I1.kept (t':=s1.toks) kk,P5 (ne _),⟨⟨_,he⟩,hit⟩,λc hc=>?_,q⟩
 have le:s1.heap.objs.size<=c:=by
  simp only [yz,List.not_mem_nil,gy] at hc
  rcases hc with q|q<;>rw [q]<;>first|exact yk _|exact Nat.le_add_right _ _
 exact I1.fpOk le (I1.hok.fresh le)
end L2
namespace Mi
open PySem L2 PySem.W PySem.Spec
section
variable {X:Cx}{Er:XK}{pos:Pos}{dX:List Stmt}{gb:Aj}{fs:Ah}
def d9 (g:PV->zj->Option zj) (body:Aj) (n:Nat):Nat->Nat->Aj
 | 0,_,_,_=>.stuck
 | m+1,i,env,st=>yx st n λxs=>match xs[i]? with
  | none=>.ok (.nx env) st
  | some x=>match g (.tup [.int i,x]) env with
   | none=>.stuck
   | some bQ=>(body bQ st).bind λfl ax=>match fl with
    | .nx e=>d9 g body n m (i+1) e ax
    | .ct e=>d9 g body n m (i+1) e ax
    | .bk e=>.ok (.nx e) ax
    | .rt v=>.ok (.rt v) ax
def kK:List PV->Mo Nat
 | [.ref n],st=>yx st n λ_=>.ok n st
 | _,_=>.stuck
def xZ {α:Type}{K:Frag}{mg:Ab}{ρ:Ae}{H:Hp}{vs:An}{st:ae}{f:Nat->Mo α}{good:List Addr->Hp->α->ae->Prop}(h:Out K mg ρ H ((kK vs st).bind f) good Er):∃n xs,vs=[.ref n]/\st[n]?=some (.lst xs)/\Out K mg ρ H (f n st) good Er:=by
 unfold kK at h
 split at h
 ·rename_i n
  unfold yx at h
  cases hn:st[n]? with
  | none=>simp only [hn] at h;exact h.elim
  | some so =>
   cases so with
   | lst xs=>simp only [hn] at h;exact ⟨n,xs,rfl,hn,h⟩
   | _=>simp only [hn] at h;exact h.elim
 ·exact h.elim
def oE (fs:Ah) (g:PV->zj->Option zj) (body:Aj):Aj:=λenv st=>(fs env st).bind λvs ao=>(kK vs ao).bind λn ao=>d9 g body n (lim+1) 0 env ao
def ziD {elts:List Expr} {kt:Nat} {tp p ip:Pos} {x:Expr} {gt:PV->zj->Option zj} (hp:PassesOwn (model X.prog X.w) X.A X.env X.xe) (hc:X.calm=true) (hm:X.mg "enumerate" = none) (ha:MA X Er [x] fs) (hg:MG X Er (.Tuple elts kt tp) gt) (hb:ff X Er dX gb)
  (qy:Gl X "enumerate" := by rfl) (cG:starEach [x] X.env=[(false,eval x X.env)]:=by rfl) (hs:∀v,foldedSetIterable (.Call (.Name "enumerate" p) [x] [] ip) X.env v=pure v:=by intro _;rfl) :
  MS X Er (.For (.Tuple elts kt tp) (.Call (.Name "enumerate" p) [x] [] ip) dX [] pos) (oE fs gt gb) :=
 PS.weak (vE hp hc (P7 qy hm ha cG) hg hb hs) λD U H ⟨env,st,ρ,re,rs,h⟩=>⟨env,st,ρ,re,rs,h.then λap H0 vs c9 e0 s0 h0 us ru=>by
  obtain ⟨n,qk,rfl,P8,h0⟩:=xZ h0
  obtain ⟨v,rfl,rv⟩:=ru.one
  obtain ⟨a,rfl,ha⟩:=rv
  obtain ⟨kA,P9,tG⟩:=s0.addr P8 ha
  refine ⟨a,rfl,⟨_,aZ.of P9⟩,?_⟩
  refine ⟨λi m U H=>∃env st ρ,a_ X.K X.mg ρ H env U/\aX X.K X.mg ρ H st/\ρ[n]?=some a/\Out X.K X.mg ρ H (d9 gt gb n m i env st) (gS X.K X.mg D) Er,⟨lim+1,env,c9,ap,re.ext e0,s0,ha,h0⟩,?_⟩
  rintro i m U H ⟨env,st,ρ,re,rs,ha,h⟩
  cases m with
  | zero=>exact h.elim
  | succ m =>
   obtain ⟨xs,hn,h⟩:=jK h
   obtain ⟨vs,hH,hR⟩:=rs.addr hn ha
   cases hx:xs[i]? with
   | none =>
    simp only [hx] at h
    have:vs.length<=i:=by rw [<-hR.len];exact lU.mp hx
    exact .inl ⟨⟨vs,aZ.of hH,this⟩,Out.now (x:=Fl.nx env) h rs U re⟩
   | some x =>
    simp only [hx] at h
    obtain ⟨v,hv,rv⟩:=hR.get hx
    refine .inr ⟨⟨vs,v,aZ.of hH,hv⟩,_,λai H' p'=>⟨m,wv m,p'⟩,λv' H' y=>?_⟩
    obtain ⟨T,x',hT,rfl,rfl,y⟩:=y
    have e2:=y vs (aZ.of hH)
    rw [hv] at e2
    cases e2
    have ex:Ext ρ H ρ (upd H T (.tup [.int i,v])):=Ext.new hT
    cases hgx:gt (.tup [.int i,x]) env with
    | none=>simp only [hgx] at h;exact h.elim
    | some bQ =>
     simp only [hgx] at h
     refine ⟨.tup [.int i,x],env,bQ,ρ,⟨T,[.int i,v],rfl,.inl (.inl jh),_,_,rfl,rfl,_,_,rfl,R.ext ex x rv,rfl⟩,re.ext ex,hgx,λar r1=>⟨bQ,st,ρ,r1,rs.new hT,Out.then (Out.ext h ex) λaj H3 fl aS e3 s3 h3=>?_⟩⟩
     cases fl with
     | nx e=>exact λaA r4=>⟨e,aS,aj,r4,s3,e3.get ha,h3⟩
     | ct e=>exact λaA r4=>⟨e,aS,aj,r4,s3,e3.get ha,h3⟩
     | bk e=>exact Out.fl (D:=D) (fl:=.nx e) (E:=Er) h3 s3
     | rt v=>exact Out.fl (D:=D) (fl:=.rt v) (E:=Er) h3 s3⟩
end
section
variable {X:Cx}{Er:XK}{pos:Pos}{fs:Ah}
end
end Mi
namespace L2
open PySem PySem.Spec PyProof.Rows PySem.W
theorem EF:∀{is:List Int}{its:Af},Vals (is.map V.int) its->(∀v∈its,∃a t,v=Value.int a t)/\numsOf its=is
 | [],_,.nil=>⟨λ_ h=>absurd h (by simp),rfl⟩
 | i::is,_,.cons r rs=>by
  obtain ⟨t,rfl⟩:=r
  obtain ⟨h1,h2⟩:=EF rs
  refine ⟨λv hv=>?_,by show i::numsOf _=_;rw [h2]⟩
  rcases yz.mp hv with q|q
  ·exact ⟨i,t,q⟩
  ·exact h1 v q
def P_ {X:Cx} (hc:X.calm=true):bZ X (.builtin "sum") (λxs H Q=>∃(a:Addr) (is:List Int),xs=[V.ref a]/\aZ X.K H a (is.map V.int)/\Q (.int is.sum) H):=by
 intro pins s U H xs us Q I r h
 obtain ⟨a,is,rfl,hq,q⟩:=h
 obtain ⟨u,rfl,ru⟩:=r.one
 obtain rfl:u=Value.ref a:=ru
 obtain ⟨its,rv,p,hz⟩:=I.list hq
 obtain ⟨h1,h2⟩:=EF rv
 obtain ⟨ys,e⟩:=AllInts.items (vs:=its.toArray) (λv hv=>h1 v (by simpa using hv))
 have hl:=p.isList
 rw [e] at hl
 refine sum_intListG (I.ok.hd hc) hl λh' tk t' hk=>?_
 have es:preSum (numAt ys) ys.size=is.sum:=by
  rw [preSum_eq,List.take_of_length_le (by simp),<-nums_intItems,<-e]
  show (numsOf its).sum=_
  rw [h2]
 rw [es]
 exact ⟨.int is.sum,H,I.kept (t':=tk) hk,⟨_,rfl⟩,q⟩
def Qa (K:Frag) (te:TE) (tk:TO):TE:=λU H Q=>te U H λx H1=>tk U H1 λk H2=>k=some (-1)/\∃a xs,x=.ref a/\aZ K H2 a xs/\∀p,H2 p=none->Q (.ref p) (upd H2 p (.lst xs.reverse))
def Qb {X:Cx}{e k:Expr}{te:TE}{tk:TO}{p2 pos:Pos}(he:PE X e te) (hk:PO X (some k) tk):PE X (.Subscript e (.Slice none none (some k) p2) pos) (Qa X.K te tk):=by
 intro pins s U H Q I h
 refine Subscript_ (aO (he pins s U H _ I h) λv s1 ⟨x,H1,I1,r1,q1⟩=>?_)
 refine wpAny_Slice ?_
 rw [evalPart_none]
 refine yg ?_
 refine yg ?_
 refine aO (hk pins s1 U H1 _ I1 q1) λvk s3 ⟨k',H3,I3,pk,gY,a,xs,ex,hq,q3⟩=>?_
 subst ex gY
 obtain rfl:v=Value.ref a:=r1
 have I4:Inv X pins U H3 { s3 with heap:=s3.heap.push { cls:=.type "slice", data:=.fields #[.none,.none,vk] } }:=I3.kept (t':=s3.toks) λb ob q=>yC _ q
 obtain ⟨its,rv,p,hz⟩:=I4.list hq
 show wpAny (model X.prog X.w) X.A (subscriptTail e (.Slice none none (some k) p2) (.ref a) (.ref s3.heap.objs.size)) (EP X pins U Q) X.xe { s3 with heap:=s3.heap.push { cls:=.type "slice", data:=.fields #[.none,.none,vk] } }
 refine tail_any (ops:=[.ref a,.ref s3.heap.objs.size]) p.isList.typeIs list_getitem_lookup ?_ rfl
 have hlen:=rv.length
 refine wpAny_getItem_list_slice p.isList (Heap.IsSliceOf.new ..) .none .none pk (by decide) ?_ (by rw [yV];omega)
 rw [krv_pick]
 have rr:Vals xs.reverse its.reverse:=rv.reverse
 refine ⟨.ref (s3.heap.push { cls:=.type "slice", data:=.fields #[.none,.none,vk] }).objs.size,upd H3 _ (.lst xs.reverse),I4.laid (t':=s3.toks) (λb u e=>yC _ e) (yk _) (o:=.lst xs.reverse) ?_,rfl,q3 _ (I4.hok.fresh (yk _))⟩
 exact ⟨by simpa using hz,its.reverse,0,rr,jq _ rfl⟩
def ck (z:Str) (n:Int):Str:=if n<1 then Str.empty else if (n==1||z.length==0)=true then z else ⟨(List.replicate n.toNat z.cps).foldl (·++·) #[]⟩
theorem EG (c:Array Nat):∀(k:Nat) (a:Array Nat),((List.replicate k c).foldl (·++·) a).size=a.size+k*c.size
 | 0,a=>by simp
 | k+1,a=>by
  rw [List.replicate_succ,List.foldl_cons,EG c k,Array.size_append,Nat.succ_mul]
  omega
theorem x5 (z:Str) (n:Int):(ck z n).length=n.toNat*z.length:=by
 unfold ck
 split
 ·rename_i h
  have:n.toNat=0:=by omega
  rw [this,Nat.zero_mul];rfl
 ·rename_i h
  split
  ·rename_i h2
   simp only [Bool.or_eq_true,beq_iff_eq] at h2
   rcases h2 with h2|h2
   ·subst h2;simp
   ·rw [h2];simp
  ·show ((List.replicate n.toNat z.cps).foldl (·++·) #[]).size=_
   rw [EG]
   show 0+n.toNat*z.cps.size=_
   rw [Nat.zero_add];rfl
def EH:R2:=λx y H Q=>∃z n,x=.str z/\y=.int n/\(0<=n/\n<=1000/\z.length<=1000)/\Q (.str (ck z n)) H
theorem Qc {X:Cx}:bf X (binaryOp .Mult) EH:=by
 intro pins s U H x y v u Q I rx ry h
 obtain ⟨z,n,rfl,rfl,⟨h0,h1,h2⟩,q⟩:=h
 obtain ⟨t,rfl⟩:=rx
 obtain ⟨t',rfl⟩:=ry
 have hb:n.toNat*z.length<=1000000:=by
  have:n.toNat<=1000:=by omega
  calc n.toNat*z.length<=1000*1000:=Nat.mul_le_mul this h2
   _=1000000:=rfl
 have hsz:=sizeLine_eq
 refine PySem.P.mul_str (by rw [jC (by omega),jC (by omega)];rfl) (λha _=>?_) (λ_ _=>?_) ?_
 ·have:(2 ^ 63-1:Int)/n>=1000:=by
   rw [ge_iff_le,Int.le_ediv_iff_mul_le (by omega)]
   omega
  omega
 ·show decide _=false
  rw [decide_eq_false_iff_not]
  have:z.length*n.toNat<=1000000:=by rw [Nat.mul_comm];exact hb
  rw [sizeLine_eq];omega
 ·by_cases c1:n<1
  ·rw [zF c1]
   have e:ck z n=Str.empty:=by unfold ck;rw [zF c1]
   rw [e] at q
   exact ⟨by decide,.str Str.empty,H,I.tok _,⟨_,rfl⟩,q⟩
  ·rw [zR c1]
   by_cases c2:(n==1||z.length==0)=true
   ·rw [zF c2]
    have e:ck z n=z:=by unfold ck;rw [zR c1,zF c2]
    rw [e] at q
    exact ⟨.str z,H,I,⟨_,rfl⟩,q⟩
   ·rw [zR c2]
    have e:ck z n=⟨(List.replicate n.toNat z.cps).foldl (·++·) #[]⟩:=by unfold ck;rw [zR c1,zR c2]
    have hl:=x5 z n
    rw [e] at q hl
    exact ⟨by rw [hl,sizeLine_eq];omega,.str _,H,I.tok _,⟨_,rfl⟩,q⟩
end L2
namespace Mi
open PySem L2 PySem.W PySem.Spec
section
variable {X:Cx}{K:Frag}{mg:Ab}{Er:XK}{e o:Expr}{es:List Expr}{pos apos:Pos}{fs:Ah}{fo fa:Ai}
def jo:Am
 | .int i,.int j,st=>D3 (.int i) (.int j) st
 | .str z,.int n,st=>if 0<=n/\n<=1000/\z.length<=1000 then .ok (.str (ck z n)) st else .stuck
 | _,_,_=>.stuck
def wu:cP X .Mult jo:=by
 obtain ⟨r,h1,h2⟩:=N5 (X:=X)
 refine ⟨λx y H Q=>r x y H Q\/EH x y H Q,h1.or Qc,fun ρ H st x y v w Q E s rx ry h=>?_⟩
 cases x with
 | int i =>
  cases y with
  | int j=>exact .inl (h2 ρ H st (.int i) (.int j) v w Q E s rx ry h)
  | _=>exact h.elim
 | str z =>
  cases y with
  | int n =>
   obtain ⟨c,h⟩:=Out.ifp h
   cases rx;cases ry
   exact .inr ⟨z,n,rfl,rfl,c,Out.now (x:=PV.str (ck z n)) h s _ rfl⟩
  | _=>exact h.elim
 | _=>exact h.elim
def dM:List PV->Option (List Int)
 | []=>some []
 | .int i::r=>(dM r).map (i::·)
 | _::_=>none
theorem EI {ρ:Ae}{H:Hp}:∀{xs:An}{is:List Int}{vs:List V},dM xs=some is->Rs K mg ρ H xs vs->vs=is.map V.int
 | [],is,vs,e,h=>by cases e;cases h;rfl
 | .int i::r,is,vs,e,h=>by
  simp only [dM,Option.map_eq_some_iff] at e
  obtain ⟨ir,e1,rfl⟩:=e
  obtain ⟨v,r',rfl,h1,h2⟩:=h
  cases h1
  rw [EI e1 h2]
  rfl
 | .non::_,_,_,e,_=>by cases e
 | .bl _::_,_,_,e,_=>by cases e
 | .str _::_,_,_,e,_=>by cases e
 | .ty _::_,_,_,e,_=>by cases e
 | .tup _::_,_,_,e,_=>by cases e
 | .frl _::_,_,_,e,_=>by cases e
 | .ref _::_,_,_,e,_=>by cases e
 | .fn _::_,_,_,e,_=>by cases e
 | .kd _ _::_,_,_,e,_=>by cases e
 | .exo _ _ _::_,_,_,e,_=>by cases e
def x6:Al:=λvs st=>(kK vs st).bind λn st=>yx st n λxs=>match dM xs with
 | some is=>.ok (.int is.sum) st
 | none=>.stuck
def Qd (hc:X.calm=true):cQ X (.builtin "sum") x6:=⟨_,P_ hc,fun ρ H st xs vs Q E s r h=>by
 obtain ⟨n,ys,rfl,hn,h⟩:=xZ h
 obtain ⟨dz,pE,h⟩:=jK h
 obtain ⟨v,rfl,rv⟩:=r.one
 obtain ⟨a,rfl,ha⟩:=rv
 obtain ⟨ws,hH,hR⟩:=s.addr pE ha
 cases hi:dM dz with
 | none=>simp only [hi] at h;exact h.elim
 | some is =>
  simp only [hi] at h
  have e:=EI hi hR
  subst e
  exact ⟨a,is,rfl,aZ.of hH,Out.now (x:=PV.int is.sum) h s _ rfl⟩⟩
theorem Qe:bootBuiltins "sum" = some (.builtin "sum"):=by decide +kernel
def mJ:Al
 | [.int i],st=>if i.natAbs.log2<1920 then .ok (.str (toString i)) st else .stuck
 | _,_=>.stuck
def EJ:cQ X (.type "str") mJ:=⟨_,Lh,fun ρ H st xs vs Q E s r h=>by
 unfold mJ at h
 split at h
 ·rename_i i
  obtain ⟨c,h⟩:=Out.ifp h
  obtain ⟨v,rfl,rfl⟩:=r.one
  exact ⟨i,rfl,c,Out.now (x:=PV.str (toString i)) h s _ rfl⟩
 ·exact h.elim⟩
def tH (o:PV) (k:Option Int):Mo PV:=λst=>match o,k with
 | .ref n,some (-1)=>yx st n λxs=>.ok (.ref st.length) (st++[.lst xs.reverse])
 | _,_=>.stuck
def qz (fa:Ai) (fk:zj->Mo (Option Int)):Ai:=λenv st=>(fa env st).bind λx ao=>(fk env ao).bind λk ax=>tH x k ax
theorem Rs.reverse {ρ:Ae}{H:Hp}:∀{xs:An}{vs:List V},Rs K mg ρ H xs vs->Rs K mg ρ H xs.reverse vs.reverse
 | [],_,h=>by cases h;rfl
 | x::xs,_,h=>by
  obtain ⟨v,r,rfl,h1,h2⟩:=h
  rw [List.reverse_cons,List.reverse_cons]
  exact (Rs.reverse h2).append ⟨v,[],rfl,h1,rfl⟩
def zq9 {k:Expr}{fk:zj->Mo (Option Int)}{p2:Pos}(ha:ME X Er e fa) (hk:MO X Er (some k) fk):ME X Er (.Subscript e (.Slice none none (some k) p2) pos) (qz fa fk) :=
 PE.weak (Qb ha hk) λU H Q ⟨env,st,ρ,re,rs,h⟩=>⟨env,st,ρ,re,rs,h.then λaf H1 x ao e1 s1 h1 v rv=>⟨env,ao,af,re.ext e1,s1,h1.then λam H2 l ax e2 s2 h2=>by
  unfold tH at h2
  split at h2
  ·rename_i n
   obtain ⟨xs,hn,h2⟩:=jK h2
   obtain ⟨a,vs,rfl,ha,k1,k2⟩:=R.refL s2 (R.ext e2 _ rv) hn
   exact ⟨rfl,a,vs,rfl,aZ.of k1,λp hp=>Out.newList h2 s2 k2.reverse hp⟩
  ·exact h2.elim⟩⟩
def qA:List Expr->Option (Ad)
 | []=>some []
 | .Constant (.str z) _ _::r=>(qA r).map (z::·)
 | _::_=>none
def tI (zs:Ad):Ah:=λ_ st=>.ok (zs.map PV.str) st
def zfx:∀{es:List Expr}{zs:Ad},qA es=some zs->MA X Er es (tI zs):=by
 intro es
 induction es with
 | nil=>intro zs h;cases h;exact zq
 | cons e r ih =>
  intro zs h
  cases e with
  | Constant c j p =>
   cases c with
   | str z =>
    simp only [qA,Option.map_eq_some_iff] at h
    obtain ⟨zr,h1,rfl⟩:=h
    exact DY zS (ih h1) PZ
   | _=>cases h
  | _=>cases h
end
section
variable {env:zj}{st:ae}{fa fb fo fi fv fe:Ai}{fs:Ah}{ft:Ak}{g:Aj}{src:zj->Mo Sq}
@[simp] def WH (xs:An) (i:Int):zt (.frl xs) (.int i) st=b_ (cY xs i) st:=(rfl)
@[simp] def mK (n:Nat) (i:Int):zt (.ref n) (.int i) st=yx st n λxs=>b_ (cY xs i) st:=(rfl)
@[simp] def EK (z:Str) (i:Int):zt (.str z) (.int i) st=if z.length<=lim then b_ ((cY z.cps.toList i).map λc=>.str ⟨#[c]⟩) st else .stuck:=(rfl)
@[simp] def lH:jD src fe env st=(src env st).bind λq ao=>mI fe env q ao:=(rfl)
@[simp] def lI (xs:An):mI fe env (.im xs) st=if xs.length<=lim then cU fe env xs [] st else .stuck:=(rfl)
@[simp] def EL:bo fs env st=(fs env st).bind mF:=(rfl)
@[simp] def Qf (j:Int):mF [.int j] st=if cR j=true then .ok (.im (nums 0 j.toNat)) st else .stuck:=(rfl)
@[simp] def WI (gt:PV->zj->Option zj):oE fs gt g env st=(fs env st).bind λvs ao=>(kK vs ao).bind λn ao=>d9 gt g n (lim+1) 0 env ao:=(rfl)
@[simp] def WJ (n:Nat):kK [.ref n] st=yx st n λ_=>.ok n st:=(rfl)
@[simp] def Qg (i:Int):mJ [.int i] st=if i.natAbs.log2<1920 then .ok (.str (toString i)) st else .stuck:=(rfl)
@[simp] def Qh (i j:Int):jo (.int i) (.int j) st=if gR i j=true then .ok (.int (i*j)) st else .stuck:=(rfl)
@[simp] def EM (z:Str) (n:Int):jo (.str z) (.int n) st=if 0<=n/\n<=1000/\z.length<=1000 then .ok (.str (ck z n)) st else .stuck:=(rfl)
@[simp] def Qi (fk:zj->Mo (Option Int)):qz fa fk env st=(fa env st).bind λx ao=>(fk env ao).bind λk ax=>tH x k ax:=(rfl)
@[simp] def Qj (n:Nat):tH (.ref n) (some (-1)) st=yx st n λxs=>.ok (.ref st.length) (st++[.lst xs.reverse]):=(rfl)
@[simp] def WK (vs:An):x6 vs st=(kK vs st).bind λn st=>yx st n λxs=>match dM xs with|some is=>.ok (.int is.sum) st|none=>.stuck:=(rfl)
@[simp] def Qk (neg:Bool) (x:PV) (ys:An):yS neg x (.tup ys) st=if okIn x ys then .ok (.bl (neg.xor (ys.any λy=>bz y x))) st else .stuck:=by unfold yS;cases x<;>rfl
@[simp] def Ql (n:Nat) (l u:Option Int):mz (.ref n) l u st=yx st n λxs=>.ok (.ref st.length) (st++[.lst (cy xs l u)]):=(rfl)
@[simp] def wM (n:Nat):jM [.ref n] st=yx st n λxs=>.ok (.tup xs) st:=(rfl)
@[simp] def EN (n:Nat) (y:PV):yR (.ref n) y st=yx st n λxs=>if xs.length<lim then .ok .non (st.set n (.lst (xs++[y]))) else .stuck:=(rfl)
end
def Pre (a b:ae):Prop:=∃d,b=a++d
def Pre.of (st d:ae):Pre st (st++d):=⟨d,rfl⟩
def Pre.get {a b:ae}(h:Pre a b) {n:Nat}{so:SO}(e:a[n]?=some so):b[n]?=some so:=by
 obtain ⟨d,rfl⟩:=h
 rw [wQ (yl.mp e).1]
 exact e
def yt (st:ae) (so:SO):(st++[so])[st.length]?=some so:=by simp
theorem oF {fe:Ai}{env:zj}{f:PV->PV}{st:ae}:∀(xs:An),(∀x∈xs,fe (some x::env) st=.ok (f x) st)->∀(ys:An),cU fe env xs ys st=.ok (.ref st.length) (st++[.lst (ys++xs.map f)])
 | [],_,ys=>by simp [cU]
 | x::xs,h,ys=>by
  simp only [cU,h x (yO ..),mG,zJ]
  rw [oF xs (λx' tf=>h x' (yX _ tf))]
  simp
def zrh {K:Frag}{mg:Ab}{t:IsT}(hs:t.sub=λ_ _=>none) (hT:t.subT=λ_ _=>none) (hC:t.tyC=λ_ _=>none):IsF K mg t where
 s c B b h:=by rw [hs] at h;cases h
 tt c n b h:=by rw [hT] at h;cases h
 u T B b h:=by rw [hC] at h;cases h
 x c C h hm z:=by
  rcases z with ⟨B,b,z⟩|⟨n,b,z⟩
  ·rw [hs] at z;cases z
  ·rw [hT] at z;cases z
 i c C h hm z:=by
  rcases z with ⟨B,b,z⟩|⟨n,b,z⟩
  ·rw [hs] at z;cases z
  ·rw [hT] at z;cases z
section
variable {X:Cx}{Er:XK}{pos:Pos}
inductive qB (X:Cx) (Er:XK):List (Option Expr)->List Expr->List Str->List (Ai)->Prop
 | nil:qB X Er [] [] [] []
 | cons {z:Str} {j} {p:Pos} {v:Expr} {f:Ai} {ks:List (Option Expr)} {vs:List Expr} {zs:Ad} {fs:List (Ai)} (hv:ME X Er v f) (hr:qB X Er ks vs zs fs):qB X Er (some (.Constant (.str z) j p)::ks) (v::vs) (z::zs) (f::fs)
def qB.len {ks:List (Option Expr)}{vs:List Expr}{zs:Ad}{fs:List (Ai)}(h:qB X Er ks vs zs fs):ks.length=vs.length/\zs.length=fs.length/\ks.length=zs.length/\ks.all (·.isSome)=true:=by
 induction h with
 | nil=>exact ⟨rfl,rfl,rfl,rfl⟩
 | cons hv hr ih=>exact ⟨by simp [ih.1],by simp [ih.2.1],by simp [ih.2.2.1],by simpa using ih.2.2.2⟩
def kL:Option SO->Bool
 | some (.dic [] [])=>true
 | _=>false
def Qm {o:Option SO}(h:kL o=true):o=some (.dic [] []):=by
 unfold kL at h
 split at h
 ·rfl
 ·cases h
theorem EO:∀{zs:Ad}{vs:List V},(zs.map V.str).zip vs=((zs.map Sum.inr:List Key).zip vs).map λkv=>(kV kv.1,kv.2)
 | [],_=>rfl
 | _::_,[]=>rfl
 | z::zs,v::vs=>by simp only [yo,List.zip_cons_cons,EO (zs:=zs) (vs:=vs)];rfl
end
section
variable {X:Cx}
def oG:Al
 | [.int i,.int j],st=>.ok (.int (if j<i then j else i)) st
 | _,_=>.stuck
def Qn (hc:X.calm=true):cQ X (.builtin "min") oG:=⟨_,Lg hc,fun ρ H st xs vs Q E s r h=>by
 unfold oG at h
 split at h
 ·rename_i bA i j
  obtain ⟨v,w,rfl,r1,r2⟩:=r.two
  cases r1;cases r2
  exact ⟨i,j,rfl,Out.now (x:=PV.int (if j<i then j else i)) h s _ rfl⟩
 ·exact h.elim⟩
theorem Qo:bootBuiltins "min" = some (.builtin "min"):=by decide +kernel
@[simp] def Qp (i j:Int) (st:ae):oG [.int i,.int j] st=.ok (.int (if j<i then j else i)) st:=(rfl)
end
section
variable {X:Cx}
def Qq:bf X (compareOp .Is) (λx y H Q=>∃a b,x=.bl a/\y=.bl b/\Q (.bl (a==b)) H):=by
 intro pins s U H x y v u Q I rx ry h
 obtain ⟨a,b,rfl,rfl,q⟩:=h
 cases rx;cases ry
 exact PyProof.Rows.is_bool ⟨.bl (a==b),H,I,rfl,q⟩
def Qr:bf X (compareOp .IsNot) (λx y H Q=>∃a b,x=.bl a/\y=.bl b/\Q (.bl (!(a==b))) H):=by
 intro pins s U H x y v u Q I rx ry h
 obtain ⟨a,b,rfl,rfl,q⟩:=h
 cases rx;cases ry
 exact PyProof.Rows.isnot_bool ⟨.bl (!(a==b)),H,I,rfl,q⟩
def x8:Am
 | .bl a,.bl b,st=>.ok (.bl (a==b)) st
 | x,y,st=>D5 x y st
def jN:Am
 | .bl a,.bl b,st=>.ok (.bl (!(a==b))) st
 | x,y,st=>D6 x y st
def Qs:b3 X .Is x8:=by
 obtain ⟨r,h1,h2⟩:=Ob (X:=X)
 refine ⟨λx y H Q=>r x y H Q\/_,h1.or Qq,fun ρ H st x y v w Q E s rx ry h=>?_⟩
 unfold x8 at h
 split at h
 ·rename_i a b
  cases rx;cases ry
  exact .inr ⟨_,_,rfl,rfl,Out.now (x:=PV.bl (a==b)) h s _ rfl⟩
 ·exact .inl (h2 ρ H st _ _ v w Q E s rx ry h)
def zbt:b3 X .IsNot jN:=by
 obtain ⟨r,h1,h2⟩:=Oc (X:=X)
 refine ⟨λx y H Q=>r x y H Q\/_,h1.or Qr,fun ρ H st x y v w Q E s rx ry h=>?_⟩
 unfold jN at h
 split at h
 ·rename_i a b
  cases rx;cases ry
  exact .inr ⟨_,_,rfl,rfl,Out.now (x:=PV.bl (!(a==b))) h s _ rfl⟩
 ·exact .inl (h2 ρ H st _ _ v w Q E s rx ry h)
end
def fK (f:PV->PV->Option Bool):List PV->List PV->Option Bool
 | [],[]=>some true
 | x::xs,y::ys=>match f x y,fK f xs ys with
  | some a,some b=>some (a&&b)
  | _,_=>none
 | _,_=>some false
def dN (f:PV->PV->Option Bool) (bT:Ad) (dz:An):List Str->List PV->Option Bool
 | k::ks,x::xs=>match (bT.zip dz).lookup k with
  | none=>some false
  | some y=>match f x y,dN f bT dz ks xs with
   | some a,some b=>some (a&&b)
   | _,_=>none
 | _,_=>some true
theorem ER {f:PV->PV->Option Bool}:∀{xs ys:An}{b:Bool},fK f xs ys=some b->∃e:Nat->Bool,(∀j x y,xs[j]?=some x->ys[j]?=some y->f x y=some (e j))/\((List.range (min xs.length ys.length)).all e&&xs.length==ys.length)=b
 | [],[],b,h=>by cases h;exact ⟨λ_=>true,λj x y h=>by simp at h,by simp⟩
 | [],y::ys,b,h=>by cases h;exact ⟨λ_=>true,λj x y h=>by simp at h,by simp⟩
 | x::xs,[],b,h=>by cases h;exact ⟨λ_=>true,λj x y _ h=>by simp at h,by simp⟩
 | x::xs,y::ys,b,h=>by
  simp only [fK] at h
  cases hf:f x y with
  | none=>rw [hf] at h;cases h
  | some a =>
   cases hr:fK f xs ys with
   | none=>rw [hf,hr] at h;cases h
   | some c =>
    rw [hf,hr] at h
    cases h
    obtain ⟨e,h1,h2⟩:=ER hr
    refine ⟨λj=>match j with|0=>a|j+1=>e j,λj u v hu hv=>?_,?_⟩
    ·cases j with
     | zero=>simp at hu hv;subst hu;subst hv;exact hf
     | succ j=>simp at hu hv;exact h1 j u v hu hv
    ·have e1:min (x::xs).length (y::ys).length=min xs.length ys.length+1:=by simp only [jt];omega
     have e2:((x::xs).length==(y::ys).length)=(xs.length==ys.length):=by
      rw [Bool.eq_iff_iff];simp
     rw [e1,e2,List.range_succ_eq_map,List.all_cons,List.all_map,<-h2,Bool.and_assoc]
     rfl
section
variable {X:Cx}{Er:XK}{K:Frag}{mg:Ab}{ρ:Ae}{pins:Ac}{U:L2.St}{H:Hp}{s:Shared}{st:ae}
def Qt {ρ:Ae}(nd:ρ.Nodup) {n m:Nat}{a:Addr}(h:ρ[n]?=some a) (h':ρ[m]?=some a):n=m:=by
 obtain ⟨h1,h2⟩:=yl.mp h
 obtain ⟨h3,h4⟩:=yl.mp h'
 have pw:=List.pairwise_iff_getElem.mp nd
 rcases Nat.lt_trichotomy n m with c|c|c
 ·exact absurd (h2.trans h4.symm) (pw n m h1 h3 c)
 ·exact c
 ·exact absurd (h4.trans h2.symm) (pw m n h3 h1 c)
theorem ES {f:PV->PV->Option Bool}(hf:∀x y v b,f x y=some b->R K mg ρ H x v->R K mg ρ H y v->b=true):∀{xs ys:An}{vs:List V}{b:Bool},fK f xs ys=some b->Rs K mg ρ H xs vs->Rs K mg ρ H ys vs->b=true
 | [],[],vs,b,h,_,_=>by cases h;rfl
 | [],y::ys,vs,b,h,rx,ry=>by cases rx;obtain ⟨_,_,e,_⟩:=ry;cases e
 | x::xs,[],vs,b,h,rx,ry=>by cases ry;obtain ⟨_,_,e,_⟩:=rx;cases e
 | x::xs,y::ys,vs,b,h,rx,ry=>by
  obtain ⟨v,r,rfl,r1,r2⟩:=rx
  obtain ⟨v',r',e,r3,r4⟩:=ry
  cases e
  simp only [fK] at h
  cases h1:f x y with
  | none=>rw [h1] at h;cases h
  | some a =>
   cases h2:fK f xs ys with
   | none=>rw [h1,h2] at h;cases h
   | some c =>
    rw [h1,h2] at h
    cases h
    rw [hf x y v a h1 r1 r3,ES hf h2 r2 r4]
    rfl
theorem ET {f:PV->PV->Option Bool}(hf:∀x v b,f x x=some b->R K mg ρ H x v->b=true) {x9:Ad}{qk:An}:∀{ks:Ad}{xs:An}{vs:List V}{b:Bool},(∀k x,(k,x)∈ks.zip xs->(x9.zip qk).lookup k=some x)->dN f x9 qk ks xs=some b->Rs K mg ρ H xs vs->b=true
 | [],xs,vs,b,_,h,_=>by cases xs<;>(cases h;rfl)
 | k::ks,[],vs,b,_,h,_=>by cases h;rfl
 | k::ks,x::xs,vs,b,hm,h,rx=>by
  obtain ⟨v,r,rfl,r1,r2⟩:=rx
  simp only [dN] at h
  rw [hm k x (by simp)] at h
  simp only at h
  cases h1:f x x with
  | none=>rw [h1] at h;cases h
  | some a =>
   cases h2:dN f x9 qk ks xs with
   | none=>rw [h1,h2] at h;cases h
   | some c =>
    rw [h1,h2] at h
    cases h
    rw [hf x v a h1 r1,ET hf (λk' x' h'=>hm k' x' (by simp [h'])) h2 r2]
    rfl
theorem EU:∀{ks:Ad}{xs:An},ks.Nodup->∀k x,(k,x)∈ks.zip xs->(ks.zip xs).lookup k=some x
 | [],_,_,k,x,h=>by simp at h
 | _::_,[],_,k,x,h=>by simp at h
 | k0::ks,x0::xs,nd,k,x,h=>by
  rw [jB] at nd
  rw [List.zip_cons_cons] at h ⊢
  rcases yz.mp h with e|h'
  ·cases e;simp [gd]
  ·have hk:k∈ks:=(List.of_mem_zip h').1
   have ne:(k==k0)=false:=by
    simp only [beq_eq_false_iff_ne]
    intro e;subst e;exact nd.1 hk
   rw [gd,ne]
   exact EU nd.2 k x h'
end
def eJ (P:Program) (W:World) (A:Around) (s:Shared) (u u':Value) (b:Bool):Prop:=∀(E:Aa) (Q:Bool->Shared->Prop),Q b s->wpAny (model P W) A (eqBool u u') Q E s
def cI (P:Program) (W:World) (A:Around) (s:Shared) (u u':Value) (b:Bool):Prop:=∀(E Q:Aa),Q (.bool b) s->wpAny (model P W) A (richCompare .Eq u u') Q E s
section
variable {P:Program}{W:World}{A:Around}{s:Shared}
def eJ.of_refs {l b:Addr}{k:Bool}(kx:l≠b) (h:cI P W A s (.ref l) (.ref b) k):eJ P W A s (.ref l) (.ref b) k:=λE Q hq=>by
 unfold eqBool
 refine wD (wpAny_ite_split (λeI=>absurd (by have:=eq_of_beq eI;injection this) kx) λ_=>?_)
 exact zA (h E _ (kh hq))
theorem Qu {l b:Addr}{its aM:Array Value}{n n2:Nat}{dd lZ:Option Addr}{sl l5:Array (Option Value)}{e:Nat->Bool}{E Q:Aa}
  (hl:s.heap.get? l=some { cls:=.type "tuple", dict:=dd,data:=.seq its n,slots:=sl }) (hb:s.heap.get? b=some { cls:=.type "tuple", dict:=lZ,data:=.seq aM n2,slots:=l5 })
  (he:∀j (h1:j<its.size) (h2:j<aM.size),eJ P W A.in1 s its[j] aM[j] (e j)) (h:Q (.bool ((List.range (min its.size aM.size)).all e&&its.size==aM.size)) s) :
  wpAny (model P W) A.in1 (Builtin.«tuple.__eq__» ⟨[.ref l,.ref b],[]⟩) (λfin s'=>∃v,fin=.done (.ret v)/\Q v s') E s:=by
 obtain ⟨hp,g,d,tk,os⟩:=s
 have f2:=AutoSeq1.sub_tuple_tuple
 have hZ:(its.toList.zip aM.toList).length=min its.size aM.size:=by simp
 wp_walk using AutoSeq1.wpAny_loadPart' hl,AutoSeq1.wpAny_loadPart' hb,wpAny_forIn_list _ (λrest b s'=>b.1=none/\s'=⟨hp,g,d,tk,os⟩/\∃i,rest=(its.toList.zip aM.toList).drop i/\Q (.bool (((List.range (min its.size aM.size)).drop i).all e&&its.size==aM.size)) ⟨hp,g,d,tk,os⟩) _
 case turn =>
  rintro ⟨y,x⟩ rest b s' ⟨x_,rfl,i,hz,hR⟩
  have bh:i<(its.toList.zip aM.toList).length:=by
   rcases Nat.lt_or_ge i (its.toList.zip aM.toList).length with h'|h'
   ·exact h'
   ·rw [iD h'] at hz;cases hz
  have hm:i<min its.size aM.size:=hZ▸bh
  have h1:i<its.size:=by omega
  have h2:i<aM.size:=by omega
  rw [j8 bh] at hz
  injection hz with lp mM
  have hy:y=its[i]:=by have:=congrArg Prod.fst lp;simpa using this
  have hx:x=aM[i]:=by have:=congrArg Prod.snd lp;simpa using this
  subst hy hx
  have hd:(List.range (min its.size aM.size)).drop i=i::(List.range (min its.size aM.size)).drop (i+1):=by simp [j8,hm]
  rw [hd,List.all_cons] at hR
  refine zA (he i h1 h2 _ _ ?_)
  cases hy:e i with
  | true =>
   rw [hy] at hR
   wp_walk
   exact ⟨rfl,rfl,i+1,mM,by simpa using hR⟩
  | false =>
   rw [hy] at hR
   wp_walk
   exact ⟨_,rfl,by simpa using hR⟩
 case fin =>
  rintro ⟨b1,b2⟩ s' ⟨x_,rfl,i,hz,hR⟩
  simp only at x_
  subst x_
  have Qv:min its.size aM.size<=i:=by
   rcases Nat.lt_or_ge i (its.toList.zip aM.toList).length with h'|h'
   ·rw [j8 h'] at hz;cases hz
   ·exact hZ▸h'
  rw [iD (by simpa using Qv)] at hR
  wp_walk
  exact ⟨_,rfl,by simpa [Builtin.Tuple.tupleCompareSizes] using hR⟩
 case h=>exact ⟨rfl,rfl,0,rfl,by simpa using h⟩
def cI.tuples {l b:Addr}{its aM:Array Value}{e:Nat->Bool}(hl:s.heap.IsTuple l its) (hb:s.heap.IsTuple b aM) (hu:A.units<cLine)
  (he:∀j (h1:j<its.size) (h2:j<aM.size),eJ P W A.in1 s its[j] aM[j] (e j)):cI P W A s (.ref l) (.ref b) ((List.range (min its.size aM.size)).all e&&its.size==aM.size):=λE Q h=>by
 obtain ⟨⟨cls,dd,data,sl⟩,ho,hc,n,hd⟩:=id hl
 obtain ⟨⟨u9,lZ,data2,l5⟩,ho2,gH,n2,hd2⟩:=id hb
 simp only at hc hd gH hd2
 subst hc hd gH hd2
 refine wpAny_richCompare_same_room (op:=.Eq) ⟨_,ho,rfl⟩ ⟨_,ho2,rfl⟩ F.slot_tuple_eq (w8 F.slot_tuple_eq ⟨_,ho,rfl⟩ F.entry_tuple_eq (Qu (Q:=λv s'=>v ≠ .notImplemented/\Q v s') ho ho2 he (show Value.bool ((List.range (min its.size aM.size)).all e&&its.size==aM.size)≠Value.notImplemented/\Q (.bool ((List.range (min its.size aM.size)).all e&&its.size==aM.size)) s from ⟨(λx=>nomatch x),h⟩)) (F.args_tuple_eq_2 _ _)) hu
end
section
variable {X:Cx}{Er:XK}{K:Frag}{mg:Ab}{ρ:Ae}{pins:Ac}{U:L2.St}{H:Hp}{s:Shared}{st:ae}
def Qw {k:Str}{ks:Ad}{v:V}{vs:List V}{us:List (Key×Value)}(h:KV (kz (k::ks) (v::vs)) us):∃u r,us=(Sum.inr k,u)::r/\RelV v u/\KV (kz ks vs) r:=by
 cases h with
 | @cons p q ps qs h t =>
  obtain ⟨h1,h2⟩:=h
  obtain ⟨k',u⟩:=q
  have:k'=Sum.inr k:=h1.symm
  subst this
  exact ⟨u,qs,rfl,h2,t⟩
theorem EV {f:Str}:∀{ks:Ad}{xs:An}{vs:List V},Rs K mg ρ H xs vs->(ks.zip xs).lookup f=none->(ks.zip vs).lookup f=none
 | [],_,_,_,_=>by simp
 | k::ks,[],_,r,_=>by cases r;simp
 | k::ks,y::xs,_,r,h=>by
  obtain ⟨v,r',rfl,h1,h2⟩:=r
  simp only [List.zip_cons_cons,gd] at h ⊢
  split at h
  ·cases h
  ·exact EV h2 h
def Qx {f:PV->PV->Option Bool}{G:Value->Value->Bool->Prop}(hf:∀x y v w u u' b,f x y=some b->R K mg ρ H x v->R K mg ρ H y w->RelV v u->RelV w u'->G u u' b) {xs ys:An}{vs ws:List V}{its aM:Af}{e:Nat->Bool}(h2:Rs K mg ρ H xs vs) (h4:Rs K mg ρ H ys ws) (r1:Vals vs its) (r2:Vals ws aM) (he:∀j x y,xs[j]?=some x->ys[j]?=some y->f x y=some (e j)) :
  ∀j (g1:j<its.toArray.size) (g2:j<aM.toArray.size),G its.toArray[j] aM.toArray[j] (e j):=by
 intro j g1 g2
 have l1:=h2.len
 have l2:=h4.len
 have l3:=r1.length
 have l4:=r2.length
 have k1:j<xs.length:=by rw [l1,l3];simpa using g1
 have k2:j<ys.length:=by rw [l2,l4];simpa using g2
 obtain ⟨v1,e1,xD⟩:=h2.get (yB k1)
 obtain ⟨v2,e2,xE⟩:=h4.get (yB k2)
 obtain ⟨u1,f1,xF⟩:=r1.get e1
 obtain ⟨u2,f2,xG⟩:=r2.get e2
 have w1:its.toArray[j]=u1:=by
  obtain ⟨_,z⟩:=yl.mp f1
  simpa using z
 have w2:aM.toArray[j]=u2:=by
  obtain ⟨_,z⟩:=yl.mp f2
  simpa using z
 rw [w1,w2]
 exact hf xs[j] ys[j] v1 v2 u1 u2 (e j) (he j _ _ (yB k1) (yB k2)) xD xE xF xG
end
section
variable {X:Cx}{Er:XK}{K:Frag}{mg:Ab}
theorem dJ:∀{ks:Ad}{us:Af},us.length=ks.length->(∀(j:Nat) v,us[j]?=some v->∃k,ks[j]?=some k/\∃t,v=Value.str k t)->Vals (ks.map V.str) us
 | [],[],_,_=>.nil
 | [],_::_,h,_=>by simp at h
 | _::_,[],h,_=>by simp at h
 | k::ks,u::us,h,hv=>by
  obtain ⟨k',e,t,ev⟩:=hv 0 u rfl
  simp at e
  subst e
  exact .cons ⟨t,ev⟩ (dJ (by simpa using h) λj v e=>by simpa using hv (j+1) v (by simpa using e))
def Qy (hc:X.calm=true):bZ X (.type "list") (λxs H Q=>∃p ks vs,xs=[.ref p]/\H p=some (.dK (kz ks vs))/\ks.length=vs.length/\∀l,H l=none->Q (.ref l) (upd H l (.lst (ks.map V.str)))):=by
 intro pins s U H xs us Q I r h
 obtain ⟨p,ks,vs,rfl,hp,hl,q⟩:=h
 obtain ⟨u,rfl,rx⟩:=lX r
 cases rx
 obtain ⟨hz,lo,kv,tJ,hd⟩:=ww I.hok (.inl hp)
 obtain ⟨ep,cN⟩:=hd.dictAt
 have lk:kv.length=ks.length:=by rw [<-tJ.length];simp [kz,hl]
 have keys:kv.map (·.1)=ks.map Sum.inr:=by
  rw [<-tJ.keys]
  simp [kz,hl,List.map_fst_zip]
 refine kdl_call (kdl_dict (knd:=aY X.prog X.w) (kvs:=kv) (ep:=ep) lo) (I.ok.hd hc) cN (by rw [<-tJ.length];exact hz) λh' tk vh c' hk hS nM=>?_
 have hv:Vals (ks.map V.str) vh.toList:=dJ (by rw [Array.length_toList,nM.1,lk]) λj v e=>by
  obtain ⟨k,x,e1,e2⟩:=nM.2 j v (by rw [<-Array.getElem?_toList];exact e)
  have e3:(kv.map (·.1))[j]?=some k:=by rw [yI,e1];rfl
  rw [keys,yI] at e3
  cases e4:ks[j]? with
  | none=>rw [e4] at e3;cases e3
  | some k' =>
   rw [e4] at e3
   cases e3
   rcases iF (show eX (Sum.inr k') v=true from e2) with ⟨i,t,z,_⟩|⟨y,t,z,z'⟩
   ·cases z
   ·cases z;exact ⟨k',rfl,t,z'⟩
 exact ⟨.ref s.heap.objs.size,_,I.laid (t':=tk) hk (yk _) (show aQ X.prog X.w _ h' _ (.lst (ks.map V.str)) from ⟨by rw [yM,<-lk,<-tJ.length];exact hz,vh.toList,c',hv,by simpa using hS⟩),rfl,q _ I.fresh⟩
def gZ:Al:=λxs st=>match xs with
 | [.ref n]=>match st[n]? with
  | some (.dic ks _)=>.ok (.ref st.length) (st++[.lst (ks.map PV.str)])
  | _=>qm xs st
 | _=>qm xs st
theorem EW {ρ:Ae}{H:Hp}:∀{ks:Ad},Rs K mg ρ H (ks.map PV.str) (ks.map V.str)
 | []=>rfl
 | k::ks=>⟨_,_,rfl,rfl,EW⟩
def Qz (hc:X.calm=true):cQ X (.type "list") gZ:=by
 obtain ⟨r,h1,h2⟩:=Ol (X:=X)
 refine ⟨_,h1.or (Qy hc),fun ρ H st xs vs Q E s rx h=>?_⟩
 by_cases hx:∃n ks ys,xs=[.ref n]/\st[n]?=some (.dic ks ys)
 ·obtain ⟨n,ks,ys,rfl,e⟩:=hx
  have h:Out X.K X.mg ρ H (.ok (.ref st.length) (st++[.lst (ks.map PV.str)])) (gV X.K X.mg Q) E:=by
   simpa only [gZ,e] using h
  obtain ⟨v,rfl,rv⟩:=Rs.one rx
  obtain ⟨a,vs,rfl,_,k1,_,k3⟩:=R.refD s rv e
  exact .inr ⟨a,ks,vs,rfl,k1,k3,λl hl=>Out.newList (xs:=ks.map PV.str) h s EW hl⟩
 ·refine .inl (h2 ρ H st xs vs Q E s rx ?_)
  have:gZ xs st=qm xs st:=by
   unfold gZ
   split
   ·rename_i n
    split
    ·rename_i ks ys e;exact absurd ⟨n,ks,ys,rfl,e⟩ hx
    ·rfl
   ·rfl
  rw [this] at h
  exact h
def EX {ss:List Stmt}:ff X Er ss xQ:=de.weak Kp λD U H ⟨env,st,ρ,re,rs,h⟩=>h
end
section
variable {P:Program}{W:World}{A:Around}{s:Shared}{E:Aa}{K:Type} [DecidableEq K] {knd:KeyKind P W K}
def oH {d:Addr} {kv:List (K×Value)} {x:Value} {T:String} {name:Str} (sl:Slot "dict" name "dict.__eq__") (hd:s.heap.DictOf knd d kv) (hx:s.TypeIs x T) (hs:isSubtype (.type T) (.type "dict")=pure false) (Q:Aa) (h:Q .notImplemented s) :
  wpAny (model P W) A (call (.builtin "dict.__eq__") [.ref d,x]) Q E s:=by
 refine w8 sl hd.typeIs PySem.F.entry_dict_eq ?_ (PySem.F.args_dict_eq_2 _ _)
 show wpAny _ _ (Builtin.Dict.dictSlotArgs "__eq__" ⟨[.ref d,x],[]⟩ >>= _) _ _ s
 refine zA ?_
 unfold Builtin.Dict.dictSlotArgs
 refine zA (wpAny_notOrdered_dict hd.typeIs ?_)
 show wpAny _ _ (pure (Value.ref d,x)) _ _ s
 refine yg ?_
 refine zA (wpAny_isInstance hx hs ?_)
 simp only [Bool.not_false,iB]
 exact zA (wpAny_rule (yg ⟨_,rfl,h⟩))
def EY {d:Addr} {o:Obj} {b:Int} {u:Tok} {name:Str} (sl:Slot "int" name "int.__eq__") (ho:s.heap.get? d=some o) (hd:o.cls=.type "dict") {es:Array DictEntry} {ep:Nat} (hq':o.data=.dict es ep) (Q:Aa) (h:Q .notImplemented s) :
  wpAny (model P W) A (call (.builtin "int.__eq__") [.int b u,.ref d]) Q E s:=by
 refine w8 sl (typeIs_int s b u) PySem.F.entry_int_eq ?_ (PySem.F.args_int_eq_2 _ _)
 obtain ⟨hp,g,dd,tk,os⟩:=s
 obtain ⟨c,d1,d2,d3⟩:=o
 cases hd
 cases hq'
 wp_walk using AutoSeq1.wpAny_loadPart' ho,wpAny_load ho
 exact ⟨_,rfl,h⟩
def EZ {d:Addr} {o:Obj} {b:Str} {u:Tok} {name:Str} (sl:Slot "str" name "str.__eq__") (ho:s.heap.get? d=some o) (hd:o.cls=.type "dict") {es:Array DictEntry} {ep:Nat} (hq':o.data=.dict es ep) (Q:Aa) (h:Q .notImplemented s) :
  wpAny (model P W) A (call (.builtin "str.__eq__") [.str b u,.ref d]) Q E s:=by
 refine w8 sl (typeIs_str s b u) PySem.F.entry_str_eq ?_ (PySem.F.args_str_eq_2 _ _)
 obtain ⟨hp,g,dd,tk,os⟩:=s
 obtain ⟨c,d1,d2,d3⟩:=o
 cases hd
 cases hq'
 wp_walk using AutoSeq1.wpAny_loadPart' ho,wpAny_load ho
 exact ⟨_,rfl,h⟩
def E_ {d t:Addr} {o ot:Obj} {its:Array Value} {n:Nat} {name:Str} (sl:Slot "tuple" name "tuple.__eq__") (ht:s.heap.get? t=some ot) (hc:ot.cls=.type "tuple") (hq:ot.data=.seq its n) (ho:s.heap.get? d=some o) (hd:o.cls=.type "dict") {es:Array DictEntry} {ep:Nat} (hq':o.data=.dict es ep) (Q:Aa) (h:Q .notImplemented s) :
  wpAny (model P W) A (call (.builtin "tuple.__eq__") [.ref t,.ref d]) Q E s:=by
 refine w8 sl ⟨_,ht,hc⟩ PySem.F.entry_tuple_eq ?_ (PySem.F.args_tuple_eq_2 _ _)
 obtain ⟨hp,g,dd,tk,os⟩:=s
 obtain ⟨c,d1,d2,d3⟩:=o
 obtain ⟨c',WL,WM,WN⟩:=ot
 cases hd
 cases hq'
 cases hc
 cases hq
 have f1:=PySem.F.sub_dict_tuple
 wp_walk using AutoSeq1.wpAny_loadPart' ht,AutoSeq1.wpAny_loadPart' ho
 exact ⟨_,rfl,h⟩
def eJ.of_ref {d:Addr}{u':Value}{k:Bool}(kx:Value.ref d≠u') (h:cI P W A s (.ref d) u' k):eJ P W A s (.ref d) u' k:=λE Q hq=>by
 unfold eqBool
 refine wD (wpAny_ite_split (λeI=>absurd (eq_of_beq eI) kx) λ_=>?_)
 exact zA (h E _ (kh hq))
def eJ.of_num {d:Addr}{b:Int}{u:Tok}{k:Bool}(h:cI P W A s (.int b u) (.ref d) k):eJ P W A s (.int b u) (.ref d) k:=λE Q hq=>by
 unfold eqBool
 refine wD (wpAny_ite_split (λeI=>absurd (eq_of_beq eI) nofun) λ_=>?_)
 exact zA (h E _ (kh hq))
def eJ.of_txt {d:Addr}{b:Str}{u:Tok}{k:Bool}(h:cI P W A s (.str b u) (.ref d) k):eJ P W A s (.str b u) (.ref d) k:=λE Q hq=>by
 unfold eqBool
 refine wD (wpAny_ite_split (λeI=>absurd (eq_of_beq eI) nofun) λ_=>?_)
 exact zA (h E _ (kh hq))
def cI.rec_num {d:Addr}{kv:List (K×Value)}(hd:s.heap.DictOf knd d kv) (b:Int) (u:Tok) (hu:A.units<cLine):cI P W A s (.ref d) (.int b u) false:=λE Q h=>by
 obtain ⟨o,es,ep,ho,hx,g0,_⟩:=id hd
 have ty:=hd.typeIs
 obtain ⟨o',ho',hc⟩:=id ty
 rw [ho] at ho'
 cases ho'
 exact SeqAt.rc_eq_decline_or (k:=false) ty (typeIs_int s b u) (by decide) PySem.F.sub_int_dict PySem.F.slot_dict_eq PySem.F.slot_int_eq_refl (oH PySem.F.slot_dict_eq hd (typeIs_int s b u) PySem.F.sub_int_dict) (EY PySem.F.slot_int_eq_refl ho hc g0)
  (λ_ hq=>wpAny_of_eq (rfl:isSame (.ref d) (.int b u)=pure false) hq) (.inr hu) h
def cI.num_rec {d:Addr}{kv:List (K×Value)}(hd:s.heap.DictOf knd d kv) (b:Int) (u:Tok) (hu:A.units<cLine):cI P W A s (.int b u) (.ref d) false:=λE Q h=>by
 obtain ⟨o,es,ep,ho,hx,g0,_⟩:=id hd
 have ty:=hd.typeIs
 obtain ⟨o',ho',hc⟩:=id ty
 rw [ho] at ho'
 cases ho'
 exact SeqAt.rc_eq_decline_or (k:=false) (typeIs_int s b u) ty (by decide) PySem.F.sub_dict_int PySem.F.slot_int_eq PySem.F.slot_dict_eq_refl (EY PySem.F.slot_int_eq ho hc g0) (oH PySem.F.slot_dict_eq_refl hd (typeIs_int s b u) PySem.F.sub_int_dict)
  (λ_ hq=>wpAny_of_eq (rfl:isSame (.int b u) (.ref d)=pure false) hq) (.inr hu) h
def cI.rec_txt {d:Addr}{kv:List (K×Value)}(hd:s.heap.DictOf knd d kv) (b:Str) (u:Tok) (hu:A.units<cLine):cI P W A s (.ref d) (.str b u) false:=λE Q h=>by
 obtain ⟨o,es,ep,ho,hx,g0,_⟩:=id hd
 have ty:=hd.typeIs
 obtain ⟨o',ho',hc⟩:=id ty
 rw [ho] at ho'
 cases ho'
 exact SeqAt.rc_eq_decline_or (k:=false) ty (typeIs_str s b u) (by decide) PySem.F.sub_str_dict PySem.F.slot_dict_eq PySem.F.slot_str_eq_refl (oH PySem.F.slot_dict_eq hd (typeIs_str s b u) PySem.F.sub_str_dict) (EZ PySem.F.slot_str_eq_refl ho hc g0)
  (λ_ hq=>wpAny_of_eq (rfl:isSame (.ref d) (.str b u)=pure false) hq) (.inr hu) h
def cI.txt_rec {d:Addr}{kv:List (K×Value)}(hd:s.heap.DictOf knd d kv) (b:Str) (u:Tok) (hu:A.units<cLine):cI P W A s (.str b u) (.ref d) false:=λE Q h=>by
 obtain ⟨o,es,ep,ho,hx,g0,_⟩:=id hd
 have ty:=hd.typeIs
 obtain ⟨o',ho',hc⟩:=id ty
 rw [ho] at ho'
 cases ho'
 exact SeqAt.rc_eq_decline_or (k:=false) (typeIs_str s b u) ty (by decide) PySem.F.sub_dict_str PySem.F.slot_str_eq PySem.F.slot_dict_eq_refl (EZ PySem.F.slot_str_eq ho hc g0) (oH PySem.F.slot_dict_eq_refl hd (typeIs_str s b u) PySem.F.sub_str_dict)
  (λ_ hq=>wpAny_of_eq (rfl:isSame (.str b u) (.ref d)=pure false) hq) (.inr hu) h
def oI {d t:Addr}{kv:List (K×Value)}{its:Array Value}(hd:s.heap.DictOf knd d kv) (ht:s.heap.IsTuple t its):d≠t:=λe=>by
 subst e
 obtain ⟨o,ho,hc⟩:=hd.typeIs
 obtain ⟨o2,ho2,gH,_⟩:=ht
 rw [ho] at ho2
 cases ho2
 rw [hc] at gH
 exact absurd gH (by simp)
def cI.rec_row {d t:Addr}{kv:List (K×Value)}{its:Array Value}(hd:s.heap.DictOf knd d kv) (ht:s.heap.IsTuple t its) (hu:A.units<cLine):cI P W A s (.ref d) (.ref t) false:=λE Q h=>by
 have ne:=oI hd ht
 obtain ⟨o,es,ep,ho,hx,g0,_⟩:=id hd
 have ty:=hd.typeIs
 obtain ⟨o',ho',hc⟩:=id ty
 rw [ho] at ho'
 cases ho'
 obtain ⟨ot,kM,mN,n,qC⟩:=id ht
 exact SeqAt.rc_eq_decline_or (k:=false) ty ⟨_,kM,mN⟩ (by decide) PySem.F.sub_tuple_dict PySem.F.slot_dict_eq PySem.F.slot_tuple_eq_refl (oH PySem.F.slot_dict_eq hd ⟨_,kM,mN⟩ PySem.F.sub_tuple_dict) (E_ PySem.F.slot_tuple_eq_refl kM mN qC ho hc g0)
  (λ_ hq=>wpAny_isSame_ref_other ne ho kM (by rw [hc];simp) hq) (.inr hu) h
def cI.row_rec {d t:Addr}{kv:List (K×Value)}{its:Array Value}(hd:s.heap.DictOf knd d kv) (ht:s.heap.IsTuple t its) (hu:A.units<cLine):cI P W A s (.ref t) (.ref d) false:=λE Q h=>by
 have ne:=oI hd ht
 obtain ⟨o,es,ep,ho,hx,g0,_⟩:=id hd
 have ty:=hd.typeIs
 obtain ⟨o',ho',hc⟩:=id ty
 rw [ho] at ho'
 cases ho'
 obtain ⟨ot,kM,mN,n,qC⟩:=id ht
 exact SeqAt.rc_eq_decline_or (k:=false) ⟨_,kM,mN⟩ ty (by decide) PySem.F.sub_dict_tuple PySem.F.slot_tuple_eq PySem.F.slot_dict_eq_refl (E_ PySem.F.slot_tuple_eq kM mN qC ho hc g0) (oH PySem.F.slot_dict_eq_refl hd ⟨_,kM,mN⟩ PySem.F.sub_tuple_dict)
  (λ_ hq=>SeqAt.wpAny_isSame_ref_other' ne.symm kM ho (by rw [hc];simp) hq) (.inr hu) h
inductive cV (P:Program) (W:World) (A:Around) (s:Shared) (kb:List (K×Value)):List (K×Value)->Bool->Prop
 | nil:cV P W A s kb [] true
 | miss {k:K} {v:Value} {r:List (K×Value)} (h:valueAt kb k=none):cV P W A s kb ((k,v)::r) false
 | hit {k:K} {v y:Value} {r:List (K×Value)} {e b:Bool} (h:valueAt kb k=some y) (he:eJ P W A s v y e) (hr:cV P W A s kb r b):cV P W A s kb ((k,v)::r) (e&&b)
def cV.inv {kb r:List (K×Value)}{k:K}{v:Value}{b:Bool}(h:cV P W A s kb ((k,v)::r) b):(valueAt kb k=none/\b=false)\/∃y e c,valueAt kb k=some y/\eJ P W A s v y e/\cV P W A s kb r c/\b=(e&&c):=by
 cases h with
 | miss h=>exact .inl ⟨h,rfl⟩
 | hit h he hr=>exact .inr ⟨_,_,_,h,he,hr,rfl⟩
theorem tK {nm:String}{a b:Addr}{ka kb:List (K×Value)}{r:Bool}{Q:Bool->Shared->Prop}(la:(a==sysModules)=false) (lb:(b==sysModules)=false) (da:s.heap.DictOf knd a ka) (db:s.heap.DictOf knd b kb)
  (hits:ka.length=kb.length->cV P W A s kb ka r) (h:Q (ka.length==kb.length&&r) s):wpAny (model P W) A (Builtin.Dict.samePairs nm a b) Q E s:=by
 obtain ⟨oa,ea,na,ga,_,qa,ha,pa,_⟩:=da
 obtain ⟨ob,eb,nb,gb,_,qb,hb,pb,_⟩:=db
 have za:ka.length=ea.size:=by rw [<-pa.length];exact Array.length_toList
 have zb:kb.length=eb.size:=by rw [<-pb.length];exact Array.length_toList
 have look:∀k,findBy knd.is eb k=valueAt kb k:=λk=>by
  rw [<-pb.find k]
  clear zb pb hb qb gb
  obtain ⟨l⟩:=eb
  simp [findBy]
 rw [za,zb] at h
 unfold Builtin.Dict.samePairs Builtin.Dict.showsAll
 rw [zR (by rw [la];decide),zR (by rw [lb];decide)]
 refine zA (yg (zA (yg (zA (wpAny_dictEntries ga qa ?_)))))
 dsimp only
 refine zA (wpAny_dictEntries gb qb ?_)
 by_cases hz:ea.size=eb.size
 ·have h':Q r s:=by simpa [hz] using h
  have hh:=hits (by rw [za,zb];exact hz)
  rw [zR (by rw [hz];simp)]
  refine zA (wpAny_dictEpoch ga qa (zA ?_))
  rw [Std.Legacy.Range.forIn_eq_forIn_range']
  simp only [Std.Legacy.Range.size,Nat.sub_zero,Nat.add_sub_cancel,Nat.div_one]
  refine wpAny_forIn_list _ (λrest q s'=>s'=s/\q=(none,())/\∃i,rest=List.range' i (ea.size-i)/\i<=ea.size/\cV P W A s kb (ka.drop i) r) _ ?_ ?_ _ _ ⟨rfl,rfl,0,by simp,js _,hh⟩
  ·rintro x rest q s' ⟨rfl,rfl,i,hr,hi,hp⟩
   have lt:i<ea.size:=by
    rcases Nat.lt_or_ge i ea.size with c|c
    ·exact c
    ·rw [Nat.sub_eq_zero_of_le c] at hr;simp at hr
   have e0:ea.size-i=(ea.size-(i+1))+1:=by omega
   rw [e0,List.range'_succ] at hr
   injection hr with hx mM
   subst hx
   refine zA (wpAny_dictEntries ga qa ?_)
   rw [Array.getElem?_eq_getElem lt]
   have lt':x<ka.length:=by rw [za];exact lt
   obtain ⟨k,v,Fb⟩:∃k v,ka[x]=(k,v):=⟨_,_,rfl⟩
   have y_:ka.drop x=(k,v)::ka.drop (x+1):=by rw [<-Fb];exact j8 lt'
   obtain ⟨nH,Fc⟩:=pa.get? (i:=x) (e:=ea[x]) (k:=k) (v:=v) (by rw [Array.getElem?_toList];exact Array.getElem?_eq_getElem lt) (by rw [yB lt',Fb])
   obtain ⟨k',gY,hs⟩:=ha ea[x] (Array.getElem_mem lt)
   rw [knd.inj _ _ _ gY nH] at hs
   rw [y_] at hp
   show wpAny _ _ (holding [ea[x].key,ea[x].val] _ >>= _) _ _ _
   rw [hs]
   refine zA (wD (zA (wpAny_dictFind_of nH gb qb hb ?_)))
   cases hj:eb.findIdx? λe=>knd.is k e.key with
   | none =>
    have hn:valueAt kb k=none:=by rw [<-look k,findBy_of_findIdx?,hj]
    rcases hp.inv with ⟨_,er⟩|⟨y,_,_,hy,_⟩
    ·rw [er] at h'
     refine yg ?_
     show wpAny _ _ (if (!false)=true then _ else _) _ _ _
     rw [zF (by decide)]
     exact yg (yg h')
    ·rw [hn] at hy;exact nomatch hy
   | some j =>
    obtain ⟨jl,_,_⟩:=Array.findIdx?_eq_some_iff_getElem.mp hj
    have se:valueAt kb k=some eb[j].val:=by
     rw [<-look k,findBy_of_findIdx?,hj]
     simp [Array.getElem?_eq_getElem jl]
    refine zA (wpAny_dictEntries gb qb ?_)
    rw [Array.getElem?_eq_getElem jl]
    rcases hp.inv with ⟨hn,_⟩|⟨y,e,c,hy,he,Fe,er⟩
    ·rw [se] at hn;exact nomatch hn
    ·have ey:eb[j].val=y:=Option.some.inj (se.symm.trans hy)
     rw [<-ey,<-Fc] at he
     refine wD (he _ _ ?_)
     cases e with
     | false =>
      rw [er,Bool.false_and] at h'
      show wpAny _ _ (if (!false)=true then _ else _) _ _ _
      rw [zF (by decide)]
      exact yg (yg h')
     | true =>
      rw [Bool.true_and] at er
      rw [<-er] at Fe
      show wpAny _ _ (if (!true)=true then _ else _) _ _ _
      rw [zR (by decide)]
      refine zA (wpAny_dictEpoch ga qa ?_)
      rw [zR (by simp)]
      exact yg ⟨rfl,rfl,x+1,mM,lt,Fe⟩
  ·rintro q s' ⟨rfl,rfl,i,hr,hi,hp⟩
   have tN:i=ea.size:=by
    rcases Nat.lt_or_ge i ea.size with c|c
    ·have e:ea.size-i=(ea.size-(i+1))+1:=by omega
     rw [e,List.range'_succ] at hr;exact nomatch hr
    ·omega
   refine yg ?_
   rw [tN,<-za,List.drop_length] at hp
   cases hp
   exact h'
 ·rw [zF (by simpa using hz)]
  have hf:(ea.size==eb.size)=false:=by simpa using hz
  rw [hf,Bool.false_and] at h
  exact zA (wpAny_rule (yg h))
def cI.recs {a b:Addr}{ka kb:List (K×Value)}{r:Bool}(la:(a==sysModules)=false) (lb:(b==sysModules)=false) (da:s.heap.DictOf knd a ka) (db:s.heap.DictOf knd b kb) (hu:A.units<cLine)
  (hits:ka.length=kb.length->cV P W A.in1 s kb ka r):cI P W A s (.ref a) (.ref b) (ka.length==kb.length&&r):=λE Q h=>by
 refine wpAny_richCompare_same_room (op:=.Eq) da.typeIs db.typeIs PySem.F.slot_dict_eq (w8 PySem.F.slot_dict_eq da.typeIs PySem.F.entry_dict_eq ?_ (PySem.F.args_dict_eq_2 _ _)) hu
 show wpAny _ _ (Builtin.Dict.dictSlotArgs "__eq__" ⟨[.ref a,.ref b],[]⟩ >>= _) _ _ s
 refine zA ?_
 unfold Builtin.Dict.dictSlotArgs
 refine zA (wpAny_notOrdered_dict da.typeIs ?_)
 show wpAny _ _ (pure (Value.ref a,Value.ref b)) _ _ s
 refine yg (zA (wpAny_isInstance (T := "dict") db.typeIs PySem.F.sub_dict_dict ?_))
 simp only [Bool.not_true,Bool.false_eq_true,if_false]
 refine zA (yg (zA (yg (zA (tK la lb da db hits ?_)))))
 refine yg ⟨_,rfl,(λx=>nomatch x),?_⟩
 simpa using h
end
section
variable {P:Program}{W:World}
end
def z_:Option SO->Bool
 | some (.dic _ _)=>true
 | _=>false
def fV (st:ae):PV->Option Nat
 | .int _=>some 0
 | .str _=>some 1
 | .tup _=>some 2
 | .ref a=>if z_ st[a]?=true then some 3 else none
 | _=>none
def nO (f:PV->PV->Option Bool):Option SO->Option SO->Option Bool
 | some (.dic ks xs),some (.dic bT dz)=>if ks.Nodup/\ks.length=xs.length then if ks.length=bT.length then dN f bT dz ks xs else some false else none
 | _,_=>none
def Aq:Option Nat->Option Nat->Option Bool
 | some i,some j=>if i=j then none else some false
 | _,_=>none
def eqT (st:ae):Nat->PV->PV->Option Bool
 | 0,_,_=>none
 | n+1,x,y=>match x,y with
  | .int a,.int b=>some (a==b)
  | .str a,.str b=>some (a==b)
  | .tup xs,.tup ys=>fK (eqT st n) xs ys
  | .ref a,.ref b=>nO (eqT st n) st[a]? st[b]?
  | x,y=>Aq (fV st x) (fV st y)
section
variable {X:Cx}{Er:XK}{K:Frag}{mg:Ab}{ρ:Ae}{pins:Ac}{U:L2.St}{H:Hp}{s:Shared}{st:ae}
inductive Kn (K:Frag) (mg:Ab) (ρ:Ae) (H:Hp) (st:ae):PV->V->Nat->Prop
 | num (i:Int):Kn K mg ρ H st (.int i) (.int i) 0
 | txt (z:Str):Kn K mg ρ H st (.str z) (.str z) 1
 | row {xs:An} {a:Addr} {vs:List V} (h:a5 K H a vs) (r:Rs K mg ρ H xs vs):Kn K mg ρ H st (.tup xs) (.ref a) 2
 | rec_ {n:Nat} {a:Addr} {ks:Ad} {xs:An} {vs:List V} (e:st[n]?=some (.dic ks xs)) (ha:ρ[n]?=some a) (h:H a=some (.dK (kz ks vs))) (r:Rs K mg ρ H xs vs) (l:ks.length=vs.length):Kn K mg ρ H st (.ref n) (.ref a) 3
def Kn.of (S:aX K mg ρ H st) {x:PV}{v:V}{i:Nat}(r:R K mg ρ H x v) (h:fV st x=some i):Kn K mg ρ H st x v i:=by
 cases x with
 | int j=>cases h;cases r;exact .num j
 | str z=>cases h;cases r;exact .txt z
 | tup xs=>cases h;obtain ⟨a,vs,rfl,h1,h2⟩:=r;exact .row h1 h2
 | ref n =>
  simp only [fV] at h
  split at h
  ·rename_i hd
   cases h
   cases e:st[n]? with
   | none=>rw [e] at hd;cases hd
   | some so =>
    cases so with
    | dic ks xs =>
     obtain ⟨a,vs,rfl,ha,k1,k2,k3⟩:=R.refD S r e
     exact .rec_ e ha k1 k2 k3
    | lst _=>rw [e] at hd;cases hd
    | ins _ _ _=>rw [e] at hd;cases hd
    | fdi _ _=>rw [e] at hd;cases hd
    | dit _ _=>rw [e] at hd;cases hd
  ·cases h
 | _=>cases h
def QA (I:Inv X pins U H s) {x y:PV}{v:V}{i j:Nat}(hx:Kn X.K mg ρ H st x v i) (hy:Kn X.K mg ρ H st y v j):i=j:=by
 cases hx with
 | num=>cases hy;rfl
 | txt=>cases hy;rfl
 | row h1 r1 =>
  cases hy with
  | row=>rfl
  | rec_ e ha h2 =>
   obtain ⟨_,_,kv,_,d⟩:=ww I.hok (.inl h2)
   obtain ⟨its,_,p,_⟩:=I.tuple h1
   exact absurd rfl (oI d p)
 | rec_ e ha h2 =>
  cases hy with
  | rec_=>rfl
  | row h1 r1 =>
   obtain ⟨_,_,kv,_,d⟩:=ww I.hok (.inl h2)
   obtain ⟨its,_,p,_⟩:=I.tuple h1
   exact absurd rfl (oI d p)
def QB (I:Inv X pins U H s) {x y:PV}{v w:V}{u u':Value}{i j:Nat}{A:Around}(hx:Kn X.K mg ρ H st x v i) (hy:Kn X.K mg ρ H st y w j) (rv:RelV v u) (rw:RelV w u') (cx:i≠j) (hu:A.units<cLine):eJ X.prog X.w A s u u' false/\cI X.prog X.w A s u u' false:=by
 cases hx with
 | num a =>
  obtain ⟨t,rfl⟩:=rv
  cases hy with
  | num=>exact absurd rfl cx
  | txt b=>obtain ⟨t',rfl⟩:=rw;exact ⟨λE Q q=>SeqAt.EqAt.int_str a t b t' _ _ E Q q,λE Q q=>SeqAt.RcAt.int_str a t b t' _ _ E Q q⟩
  | row h1 r1 =>
   cases rw
   obtain ⟨its,_,p,_⟩:=I.tuple h1
   exact ⟨λE Q q=>SeqAt.EqAt.int_tuple a t p hu _ _ E Q q,λE Q q=>SeqAt.RcAt.int_tuple a t p hu _ _ E Q q⟩
  | rec_ e ha h2 =>
   cases rw
   obtain ⟨_,_,kv,_,d⟩:=ww I.hok (.inl h2)
   exact ⟨.of_num (.num_rec d a t hu),.num_rec d a t hu⟩
 | txt a =>
  obtain ⟨t,rfl⟩:=rv
  cases hy with
  | txt=>exact absurd rfl cx
  | num b=>obtain ⟨t',rfl⟩:=rw;exact ⟨λE Q q=>SeqAt.EqAt.str_int a t b t' _ _ E Q q,λE Q q=>SeqAt.RcAt.str_int a t b t' _ _ E Q q⟩
  | row h1 r1 =>
   cases rw
   obtain ⟨its,_,p,_⟩:=I.tuple h1
   exact ⟨λE Q q=>SeqAt.EqAt.str_tuple a t p hu _ _ E Q q,λE Q q=>SeqAt.RcAt.str_tuple a t p hu _ _ E Q q⟩
  | rec_ e ha h2 =>
   cases rw
   obtain ⟨_,_,kv,_,d⟩:=ww I.hok (.inl h2)
   exact ⟨.of_txt (.txt_rec d a t hu),.txt_rec d a t hu⟩
 | row h0 r0 =>
  cases rv
  obtain ⟨its,_,p,_⟩:=I.tuple h0
  cases hy with
  | row=>exact absurd rfl cx
  | num b=>obtain ⟨t',rfl⟩:=rw;exact ⟨λE Q q=>SeqAt.EqAt.tuple_int b t' p hu _ _ E Q q,λE Q q=>SeqAt.RcAt.tuple_int b t' p hu _ _ E Q q⟩
  | txt b=>obtain ⟨t',rfl⟩:=rw;exact ⟨λE Q q=>SeqAt.EqAt.tuple_str b t' p hu _ _ E Q q,λE Q q=>SeqAt.RcAt.tuple_str b t' p hu _ _ E Q q⟩
  | rec_ e ha h2 =>
   cases rw
   obtain ⟨_,_,kv,_,d⟩:=ww I.hok (.inl h2)
   have ne:=oI d p
   exact ⟨.of_ref (λz=>ne (by injection z with z;exact z.symm)) (.row_rec d p hu),.row_rec d p hu⟩
 | rec_ e0 WO h0 =>
  cases rv
  obtain ⟨_,_,kv,_,d⟩:=ww I.hok (.inl h0)
  cases hy with
  | rec_=>exact absurd rfl cx
  | num b=>obtain ⟨t',rfl⟩:=rw;exact ⟨.of_ref nofun (.rec_num d b t' hu),.rec_num d b t' hu⟩
  | txt b=>obtain ⟨t',rfl⟩:=rw;exact ⟨.of_ref nofun (.rec_txt d b t' hu),.rec_txt d b t' hu⟩
  | row h1 r1 =>
   cases rw
   obtain ⟨its,_,p,_⟩:=I.tuple h1
   have ne:=oI d p
   exact ⟨.of_ref (λz=>ne (by injection z)) (.rec_row d p hu),.rec_row d p hu⟩
def QC {a b:Option Nat}{k:Bool}(h:Aq a b=some k):∃i j,a=some i/\b=some j/\i≠j/\k=false:=by
 unfold Aq at h
 split at h
 ·split at h
  ·cases h
  ·rename_i i j c;cases h;exact ⟨i,j,rfl,rfl,c,rfl⟩
 ·cases h
inductive oJ (st:ae) (f:PV->PV->Option Bool):PV->PV->Bool->Prop
 | num (a b:Int):oJ st f (.int a) (.int b) (a==b)
 | txt (a b:Str):oJ st f (.str a) (.str b) (a==b)
 | row {xs ys:An} {k:Bool} (h:fK f xs ys=some k):oJ st f (.tup xs) (.tup ys) k
 | rec_ {a b:Nat} {k:Bool} (h:nO f st[a]? st[b]?=some k):oJ st f (.ref a) (.ref b) k
 | apart {x y:PV} {i j:Nat} (hx:fV st x=some i) (hy:fV st y=some j) (h:i≠j):oJ st f x y false
def ziZ {n:Nat}{x y:PV}{k:Bool}(h:eqT st (n+1) x y=some k):oJ st (eqT st n) x y k:=by
 unfold eqT at h
 split at h
 ·cases h;exact .num _ _
 ·cases h;exact .txt _ _
 ·exact .row h
 ·exact .rec_ h
 ·obtain ⟨i,j,h1,h2,h3,rfl⟩:=QC h
  exact .apart h1 h2 h3
def Ff {f:PV->PV->Option Bool}{a b:Option SO}{k:Bool}(h:nO f a b=some k):∃ks xs bT dz,a=some (.dic ks xs)/\b=some (.dic bT dz)/\ks.Nodup/\ks.length=xs.length/\((ks.length=bT.length/\dN f bT dz ks xs=some k)\/(ks.length≠bT.length/\k=false)):=by
 unfold nO at h
 split at h
 ·rename_i ks xs bT dz
  split at h
  ·rename_i c
   split at h
   ·rename_i c';exact ⟨_,_,_,_,rfl,rfl,c.1,c.2,.inl ⟨c',h⟩⟩
   ·rename_i c';cases h;exact ⟨_,_,_,_,rfl,rfl,c.1,c.2,.inr ⟨c',rfl⟩⟩
  ·cases h
 ·cases h
def Fg (I:Inv X pins U H s) (S:aX X.K mg ρ H st):∀(n:Nat) (x y:PV) (v:V) (b:Bool),eqT st n x y=some b->R X.K mg ρ H x v->R X.K mg ρ H y v->b=true:=by
 intro n
 induction n with
 | zero=>intro x y v b h;cases h
 | succ n ih =>
  intro x y v b h rx ry
  cases ziZ h with
  | num a c=>cases rx;cases ry;simp
  | txt a c=>cases rx;cases ry;simp
  | row h0 =>
   obtain ⟨a,vs,rfl,h1,h2⟩:=rx
   obtain ⟨a',ws,e,h3,h4⟩:=ry
   cases e
   have:=I.tuple_inj h1 h3
   subst this
   exact ES (λx y v b=>ih x y v b) h0 h2 h4
  | @rec_ i j _ h0 =>
   obtain ⟨a,rfl,h1⟩:=rx
   obtain ⟨a',e,h2⟩:=ry
   cases e
   obtain rfl:=Qt S.nd h1 h2
   obtain ⟨ks,xs,bT,dz,e1,e2,nd,hl,hc⟩:=Ff h0
   rw [e1] at e2
   cases e2
   obtain ⟨vs,_,k2,_⟩:=S.addr e1 h1
   rcases hc with ⟨_,hc⟩|⟨hc,_⟩
   ·exact ET (λx v b e r=>ih x x v b e r r) (EU nd) hc k2
   ·exact absurd rfl hc
  | apart hx hy cx=>exact absurd (QA I (Kn.of S rx hx) (Kn.of S ry hy)) cx
theorem Fh {A:Around}{f:PV->PV->Option Bool}(hf:∀x y v w u u' b,f x y=some b->R K mg ρ H x v->R K mg ρ H y w->RelV v u->RelV w u'->eJ X.prog X.w A s u u' b) {bT:Ad}{dz:An}{ws:List V}{kb:List (Key×Value)}(r':Rs K mg ρ H dz ws) (Fi:KV (kz bT ws) kb) :
  ∀{ks:Ad} {xs:An} {vs:List V} {ka:List (Key×Value)} {b:Bool},ks.length=vs.length->Rs K mg ρ H xs vs->KV (kz ks vs) ka->dN f bT dz ks xs=some b->cV X.prog X.w A s kb ka b
 | [],xs,[],ka,b,_,_,kv,h=>by
  have:b=true:=by cases xs<;>(cases h;rfl)
  subst this
  cases kv
  exact .nil
 | [],xs,_::_,ka,b,hl,_,_,_=>by simp at hl
 | k::ks,xs,[],ka,b,hl,_,_,_=>by simp at hl
 | k::ks,xs,v::vs,ka,b,hl,r,kv,h=>by
  obtain ⟨u,WQ,rfl,ru,QD⟩:=Qw kv
  cases xs with
  | nil=>cases r
  | cons x xs =>
   obtain ⟨v',WR,e,r1,r2⟩:=r
   cases e
   simp only [dN] at h
   have hv:=Fi.val (Sum.inr k)
   rw [xU] at hv
   cases hl2:(bT.zip dz).lookup k with
   | none =>
    rw [hl2] at h
    cases h
    rw [EV r' hl2] at hv
    cases hu:valueAt kb (Sum.inr k) with
    | none=>exact .miss hu
    | some _=>rw [hu] at hv;exact (show False from hv).elim
   | some y =>
    rw [hl2] at h
    simp only at h
    cases h1:f x y with
    | none=>rw [h1] at h;cases h
    | some a =>
     cases h2:dN f bT dz ks xs with
     | none=>rw [h1,h2] at h;cases h
     | some c =>
      rw [h1,h2] at h
      cases h
      obtain ⟨w,hw,dG⟩:=oA r' hl2
      rw [hw] at hv
      cases hu:valueAt kb (Sum.inr k) with
      | none=>rw [hu] at hv;exact (show False from hv).elim
      | some u' =>
       rw [hu] at hv
       exact .hit hu (hf x y v w u u' a h1 r1 dG ru hv) (Fh hf r' Fi (by simpa using hl) r2 QD h2)
theorem QE (I:Inv X pins U H s) (S:aX X.K mg ρ H st):∀(n:Nat) (x y:PV) (v w:V) (u u':Value) (b:Bool) (A:Around),eqT st n x y=some b->R X.K mg ρ H x v->R X.K mg ρ H y w->RelV v u->RelV w u'->A.units+n<cLine ->
  eJ X.prog X.w A s u u' b/\cI X.prog X.w A s u u' b:=by
 intro n
 induction n with
 | zero=>intro x y v w u u' b A h;cases h
 | succ n ih =>
  intro x y v w u u' b A h rx ry rv rw hu
  cases ziZ h with
  | num a c=>cases rx;cases ry;obtain ⟨t,rfl⟩:=rv;obtain ⟨t',rfl⟩:=rw;exact ⟨λE Q q=>SeqAt.EqAt.int_int a t c t' _ _ E Q q,λE Q q=>SeqAt.RcAt.int_int a t c t' _ _ E Q q⟩
  | txt a c=>cases rx;cases ry;obtain ⟨t,rfl⟩:=rv;obtain ⟨t',rfl⟩:=rw;exact ⟨λE Q q=>SeqAt.EqAt.str_str a t c t' _ _ E Q q,λE Q q=>SeqAt.RcAt.str_str a t c t' _ _ E Q q⟩
  | row h0 =>
   obtain ⟨a,vs,rfl,h1,h2⟩:=id rx
   obtain ⟨a',ws,rfl,h3,h4⟩:=id ry
   cases rv
   cases rw
   obtain ⟨its,r1,p1,_⟩:=I.tuple h1
   obtain ⟨aM,r2,p2,_⟩:=I.tuple h3
   obtain ⟨e,he,hb⟩:=ER h0
   have it:=Qx (G:=eJ X.prog X.w A.in1 s) (λx y v w u u' b e r1 r2 r3 r4=>(ih x y v w u u' b A.in1 e r1 r2 r3 r4 (by rw [sX];omega)).1) h2 h4 r1 r2 he
   have eb:((List.range (min its.toArray.size aM.toArray.size)).all e&&its.toArray.size==aM.toArray.size)=b:=by
    rw [h2.len,h4.len,r1.length,r2.length] at hb
    simpa using hb
   have rc:cI X.prog X.w A s (.ref a) (.ref a') b:=by
    rw [<-eb]
    exact cI.tuples (show s.heap.IsTuple a its.toArray from p1) (show s.heap.IsTuple a' aM.toArray from p2) (by omega) it
   refine ⟨?_,rc⟩
   by_cases eI:a=a'
   ·subst eI
    rw [Fg I S (n+1) _ _ _ _ h rx ry]
    exact λE Q q=>SeqAt.EqAt.same _ _ _ E Q q
   ·exact .of_refs eI rc
  | @rec_ i j _ h0 =>
   obtain ⟨a,rfl,h1⟩:=id rx
   obtain ⟨a',rfl,h2⟩:=id ry
   cases rv
   cases rw
   obtain ⟨ks,xs,bT,dz,e1,e2,nd,hl,hc⟩:=Ff h0
   obtain ⟨vs,k1,k2,k3⟩:=S.addr e1 h1
   obtain ⟨ws,k4,k5,k6⟩:=S.addr e2 h2
   obtain ⟨_,s1,ka,Fj,da⟩:=ww I.hok (.inl k1)
   obtain ⟨_,s2,kb,Fo,db⟩:=ww I.hok (.inl k4)
   have la:ka.length=ks.length:=by rw [<-Fj.length];simp [kz,k3]
   have lb:kb.length=bT.length:=by rw [<-Fo.length];simp [kz,k6]
   have both:cI X.prog X.w A s (.ref a) (.ref a') b:=by
    rcases hc with ⟨tO,hc⟩|⟨tO,rfl⟩
    ·have hits:ka.length=kb.length->cV X.prog X.w A.in1 s kb ka b:=λ_=>Fh (λx y v w u u' b e r1 r2 r3 r4=>(ih x y v w u u' b A.in1 e r1 r2 r3 r4 (by rw [sX];omega)).1) k5 Fo k3 k2 Fj hc
     have pV:(ka.length==kb.length&&b)=b:=by rw [la,lb,tO];simp
     rw [<-pV]
     exact cI.recs s1 s2 da db (by omega) hits
    ·have pV:(ka.length==kb.length&&true)=false:=by rw [la,lb];simpa using tO
     rw [<-pV]
     exact cI.recs s1 s2 da db (by omega) λz=>absurd (by rw [<-la,<-lb];exact z) tO
   refine ⟨?_,both⟩
   by_cases eI:a=a'
   ·subst eI
    rw [Fg I S (n+1) _ _ _ _ h rx ry]
    exact λE Q q=>SeqAt.EqAt.same _ _ _ E Q q
   ·exact .of_refs eI both
  | apart hx hy cx=>exact QB I (Kn.of S rx hx) (Kn.of S ry hy) rv rw cx (by omega)
def wT:Am:=λx y st=>match eqT st 150 x y with
 | some b=>.ok (.bl b) st
 | none=>.stuck
def QF (K:Frag) (mg:Ab):R2:=λv w H Q=>∃ρ st x y b,aX K mg ρ H st/\eqT st 150 x y=some b/\R K mg ρ H x v/\R K mg ρ H y w/\Q (.bl b) H
theorem QG (hu:X.A.units+200<cLine):bf X (compareOp .Eq) (QF X.K X.mg):=by
 intro pins s U H x y v u Q I rx ry h
 obtain ⟨ρ,st,a,b,k,S,e,ra,rb,q⟩:=h
 exact (QE I S 150 a b x y v u k X.A e ra rb rx ry (by omega)).2 _ _ ⟨.bl k,H,I,rfl,q⟩
def zfz (hu:X.A.units+200<cLine):b3 X .Eq wT:=⟨_,QG hu,fun ρ H st x y v w Q E s rx ry h=>by
 unfold wT at h
 cases e:eqT st 150 x y with
 | none=>rw [e] at h;exact h.elim
 | some b=>rw [e] at h;exact ⟨ρ,st,x,y,b,s,e,rx,ry,h.now s _ rfl⟩⟩
end
section
variable {X:Cx}{Er:XK}{K:Frag}{mg:Ab}{ρ:Ae}{pins:Ac}{U:L2.St}{H:Hp}{s:Shared}{st:ae}{o:Expr}{fo:Ai}{apos a6 p0 V_:Pos}
open Classical in
noncomputable def Wa (K:Frag) (mg:Ab) (ρ:Ae) (H:Hp) (st:ae) (ys:An) (x:PV) (u:Value):Bool:=decide (∃y v,y∈ys/\R K mg ρ H y v/\RelV v u/\eqT st 150 y x=some true)
open Classical in
end
end Mi
namespace L2
open PySem PySem.Spec PyProof.Rows
def QH (iy:Nat) (wi:TI) (te:TE):TS:=λD U H=>wi U H λJ H1=>l_ J te U (λv H2=>D.nx (U.set iy (some v)) H2) H1
theorem QI {X:Cx} {elt iter:Expr} {x y:Str} {px pos pos' f7:Pos} {scope:Scope} {wi:TI} {te:TE} {M:Ad} {iy:Nat} (hc:X.calm=true) (S:du X.env.scope scope x) (eN:Hid scope M X.N) (cH:((".0" : Str)::x::M).Nodup)
  (hi:PI X (.Name x px) iter wi) (he:∀cl C aa ag fp,PE (lg X M scope cl x C aa ag fp (λ_ _=>False)) elt te) (qD:X.N.Nodup) (qE:X.N[iy]?=some y) (hy:Loc X.env.scope y) (qF:X.fn y=true\/X.env.scope.names.lookup y=some .local)
  (qG:swapsWith (.ListComp elt [⟨.Name x px,iter,[],0⟩] scope pos) (some (.Name y pos')) f7.line X.env=pure true) (hs:∀v,foldedSetIterable iter X.env v=pure v:=by intro _;rfl):PS X (.Assign [.Name y pos'] (.ListComp elt [⟨.Name x px,iter,[],0⟩] scope pos) f7) (QH iy wi te):=by
 intro pins s U H Dn I h
 have hN:(x::M).Nodup:=(jB.mp cH).2
 have vS:(".0" : Str)∉M:=λz=>(jB.mp cH).1 (yX _ z)
 obtain ⟨cl,mf,dh,lj⟩:=Dm X.env scope λp hp hf=>I.ok.has p.1 (.inl (S.free p hp hf))
 have mh:X.env.scope.kind=.function:=I.ok.kind
 rw [exec_Assign_Name_used _ _ _ _ qG]
 refine zA (wpAny_standAt ?_)
 rw [arm_evalThenUse_ListComp]
 refine zA (zA (wpAny_comprehension_free (Q:=λ_ s'=>wpAny (model X.prog X.w) X.A (pure ():Sem Unit) (λ_ s'=>wpAny (model X.prog X.w) X.A (pure .next:Sem Flow) (SP X pins Dn) X.xe s') X.xe s') (use:=some (assign (.Name y pos') X.env)) rfl hs mf S.kind (λy hy hl=>(S.names y hy hl).1) ?_))
 refine aO (hi pins s U H _ I h) λv s1 h1=>aO h1 λrZ aa h2=>?_
 obtain ⟨it,fp,tn,J,H2,e,I2,T,ax,f2,W,⟨m0,w0⟩,turn⟩:=h2
 subst e
 refine kg (wpAny_newFunctionEnv S.ncell (by intro y hy;simp at hy) (λay aB az=>?_) S.kind)
 dsimp only at aB az ⊢
 generalize hH2:aa.heap.push { cls:=.type "list", dict:=none,data:=.seq ([]:Af).toArray }=G2 at aB az ⊢
 have hC:G2.objs.size=aa.heap.objs.size+1:=by rw [<-hH2,Heap.size_push]
 have iM:aa.heap.objs.size≠G2.objs.size:=by rw [hC];exact jg (wv _)
 have Dw:aa.heap.objs.size<=G2.objs.size:=by rw [hC];exact Nat.le_succ _
 have old:∀b o,aa.heap.get? b=some o->ay.get? b=some o:=λb o e=>by
  have hb:b≠G2.objs.size:=by rw [hC];exact jg (Nat.lt_succ_of_lt (yF e))
  exact az.extBut b o hb (yC _ (hH2▸yC _ e))
 have pX:ay.get? aa.heap.objs.size=some { cls:=.type "list", data:=.seq (#[]:Array Value) 0 }:=az.extBut _ _ iM (yC _ (hH2▸jq _ rfl))
 generalize hD:aa.heap.objs.size=D at *
 generalize hCC:G2.objs.size=C at *
 have eE:∀{b:Nat} {o:Obj},aa.heap.get? b=some o->b<D:=λe=>by rw [<-hD];exact yF e
 have nofr:∀b,D<=b->b∉dc X.stack:=λb hb z=>by
  rcases yz.mp (I2.stkSub b z) with q|q
  ·exact Di I2.lt hD hb q
  ·exact I2.nofs (by rw [hD];exact hb) q
 let E':Aa:=notedBy (model X.prog X.w) X.A (compEnvC scope cl C X.env) λe s'=>compPost (model X.prog X.w) X.A X.xe (some (assign (.Name y pos') X.env)) (λ_ s'=>wpAny (model X.prog X.w) X.A (pure ():Sem Unit) (λ_ s'=>wpAny (model X.prog X.w) X.A (pure .next:Sem Flow) (SP X pins Dn) X.xe s') X.xe s') (.ref D) C (.error e) s'
 let Y:Cx:=lg X M scope cl x C aa H2 fp E'
 have dH:∀b∈fp,df X pins H2 b:=f2
 have mi:Y.Ok:=by
  refine ⟨I2.ok.mod,S.kind,I2.ok.glob,I2.ok.blt,(by show aa.heap.objs.size<=C;omega),λy z c h1 h2=>?_,λy hy=>?_,λy c hf=>?_,I2.ok.hd,I2.ok.frames,.inl rfl,λb hb=>?_,I2.bs,jr I2.ok.bsz I2.sz,λb o hb hx=>?_,λb hb hx=>?_,I2.stack,I2.stkFree⟩
  ·exact I2.ok.inj y z c (dh y c h1) (dh z c h2)
  ·exact lj y (vO S mh hy)
  ·cases hf
  ·refine ⟨λz=>?_,λy c hy=>(dH b hb).2.2.2.2.1 y c (dh y c hy)⟩
   obtain ⟨o,ho,_⟩:=T.obj 0 _ ax b hb
   exact l9 (eE ho) hC z
  ·rcases (dH b hx).2.2.2.1 with z|z
   ·exact I2.ok.noex b o hb z
   ·exact Dj (yF hb) I2.ok.bsz z
  ·rcases yz.mp (I2.stkSub b hx) with q|q
   ·exact (dH b hb).2.1 q
   ·exact (dH b hb).2.2.1 q
 have fR:∀{s':Shared} {H':Hp} {o:Obj},s'.heap.get? D=some o->H' D=none->(∀v,o.data ≠ .cell v)->∀p∈[(D,o)],s'.heap.get? p.1=some p.2/\H' p.1=none/\p.1≠Y.env.locals/\p.1∉Y.fs/\∀v,p.2.data ≠ .cell v:=λ{s' H' o} e1 e2 e3 p hp=>by
  have ep:p=(D,o):=by simpa using hp
  subst ep
  exact ⟨e1,e2,iM,nofr D (yk _),e3⟩
 have I0:Inv Y [(D,{ cls:=.type "list", data:=.seq (#[]:Array Value) 0 })] (none::U) H2 { aa with heap:=ay,toks:=aa.toks+([]:List (Str×Value)).length }:=by
  have fresh:∀b,D<=b->H2 b=none:=λb hb=>I2.hok.fresh (by rw [hD];exact hb)
  refine ⟨mi,rfl,I2.bare,Un.kept old,⟨_,aB,λi y v e1 e2 e3=>?_⟩,λy c hy=>?_,fresh C (by omega),λy c hy=>I2.freeC y c (dh y c hy),λp hp=>fR pX (fresh D (yk _)) (λv z=>by cases z) p hp,I2.hok.kept old,?_⟩
  ·cases i with
   | zero=>simp at e2
   | succ i =>
    have pY:M[i]?=some y:=by simpa [Y,lg] using e1
    have vT:X.N[i]?=some y:=by
     rcases eN.get pY with q|q
     ·exact q
     ·refine absurd ?_ q
      rcases e3 with e3|e3|e3<;>(obtain ⟨k0,hm,_⟩:=lh e3;exact jd.mpr ⟨_,hm,rfl⟩)
    have vU:U[i]?=some (some v):=by simpa using e2
    have lp:¬(y=x\/y = ".0"):=λz=>by
     have hm:=jV pY
     rcases z with z|z
     ·rw [z] at hm
      exact (jB.mp hN).1 hm
     ·rw [z] at hm
      exact vS hm
    have fF:(y,NameKind.free)∈scope.names:=by
     rcases e3 with e3|e3|e3
     ·exact absurd (Dq S e3) lp
     ·exact vO S mh (.inl e3)
     ·exact vO S mh (.inr e3)
    have pZ:X.env.scope.names.lookup y=some .cell:=S.free _ fF rfl
    obtain ⟨m,hn,hl⟩:=I2.loc
    obtain ⟨u,r,l⟩:=hl i y v vT vU (.inr (.inl pZ))
    refine ⟨u,r,?_⟩
    rcases l with ⟨hk,_⟩|⟨_,c,nW,d0⟩
    ·have:X.env.kindOf y=some .cell:=pZ
     rw [this] at hk;cases hk
    ·obtain ⟨c',cX⟩:=lj y fF
     have:=dh y c' cX
     rw [nW] at this
     cases this
     refine .inr ⟨?_,c,cX,?_⟩
     ·rcases e3 with e3|e3|e3
      ·exact absurd (Dq S e3) lp
      ·exact .inl e3
      ·exact .inr e3
     ·obtain ⟨o,ho,hd⟩:=d0
      exact ⟨o,old c o ho,hd⟩
  ·obtain ⟨v,o,ho,hd⟩:=I2.cell y c (dh y c hy)
   exact ⟨v,o,old c o ho,hd⟩
  ·show (none::U).length=(x::M).length
   simp [I2.len,eN.1]
 have mj:∀{pl:Ac} {H':Hp},(∀p∈pl,p.1=D)->(∀b∈fp,H' b=none)->∀b∈fp,df Y pl H' b:=λ{pl H'} bX hn b hb=>by
  obtain ⟨o,ho,_⟩:=T.obj 0 _ ax b hb
  refine ⟨hn b hb,λz=>?_,?_,.inl hb,(mi.exf b hb).2,λp hp z=>?_⟩
  ·exact l9 (eE ho) hC z
  ·exact mi.exfs b hb
  ·have hp':p∈pl:=by simpa [Y,lg] using hp
   exact Dk (eE ho) (bX p hp') z
 have loop:codeAny (model X.prog X.w) X.A (.compLoop (.ListComp elt [⟨.Name x px,iter,[],0⟩] scope pos) 0 (.ref it) (.ref D) (compEnvC scope cl C X.env))
   (compPost (model X.prog X.w) X.A X.xe (some (assign (.Name y pos') X.env)) (λ_ s'=>wpAny (model X.prog X.w) X.A (pure ():Sem Unit) (λ_ s'=>wpAny (model X.prog X.w) X.A (pure .next:Sem Flow) (SP X pins Dn) X.xe s') X.xe s') (.ref D) C) { aa with heap:=ay,toks:=aa.toks+([]:List (Str×Value)).length }:=by
  refine MP (λn s'=>∃i ys H' its k,Inv Y [(D,{ cls:=.type "list", data:=.seq (its:Af).toArray k })] (none::U) H' s'/\Vals ys its/\tn i s'.heap/\(∀b∈fp,H' b=none)/\W i n ys H') ?_ m0
   ⟨0,[],H2,[],0,I0,.nil,T.keep 0 _ _ ax (λb hb o e=>old b o e),λb hb=>(dH b hb).1,w0⟩
  rintro n s3 ⟨i,ys,H3,its,k,I3,rv,aS,k8,w3⟩
  have gM:∀{o:Obj},∀p∈[(D,o)],p.1=D:=λ{o} p hp=>by
   have ep:p=(D,o):=by simpa using hp
   rw [ep]
  obtain ⟨gD,nD,_,_,_⟩:=I3.pin (D,_) (jm _ yO)
  rcases turn i n ys H3 w3 with ⟨stop,hz,q⟩|⟨go,hz,step⟩
  ·refine aO (T.done Y rfl rfl rfl hc i _ s3 _ H3 E' I3 (mj gM k8) aS stop) λr s4 ⟨hr,I4⟩=>?_
   subst hr
   obtain ⟨vV,mm,_,_,_⟩:=I4.pin (D,_) (jm _ yO)
   obtain ⟨m4,vW,_⟩:=id I4.loc
   have fin:∀h',Heap.SameBut C s4.heap h'->Inv X pins U (upd H3 D (.lst ys)) { s4 with heap:=h' }:=λh' dI=>by
    have iI:∀{b:Addr} {u:HO},H3 b=some u->b≠C:=λe z=>by
     have:H3 C=none:=I4.free
     rw [z,this] at e;cases e
    refine I2.call' (s':={ s4 with heap:=h' }) (ch:=fp) (H':=upd H3 D (.lst ys)) I4.os ?_ ?_ I4.bare λb hb=>⟨(dH b hb).2.2.2.1,(dH b hb).2.1,(dH b hb).2.2.2.2.1,(dH b hb).2.2.2.2.2⟩
    ·have B:=I4.base
     have mn:∀{b:Nat} {o:Obj},aa.heap.get? b=some o->b≠C:=λe z=>l9 (eE e) hC z
     have mq:∀{b:Addr} {u:HO},H3 b=some u->b≠D:=λe z=>by rw [z,mm] at e;cases e
     refine ⟨λb o e nn hb hx=>(dI.2 b (mn e)).trans (B.keep b o e nn hb hx),λb o e nn hb hx=>?_,λb o e nn hx=>?_,λb o e hx=>?_,λb xs e=>?_,λb o u e=>?_,λb ps e=>?_⟩
     ·obtain ⟨sl,z⟩:=B.slot b o e nn hb hx
      exact ⟨sl,(dI.2 b (mn e)).trans z⟩
     ·have vX:b≠D:=jg (eE e)
      rw [yE vX]
      exact B.free b o e nn hx
     ·obtain ⟨o',z⟩:=B.there b o e hx
      exact ⟨o',(dI.2 b (mn e)).trans z⟩
     ·have z:=B.tups b xs e
      rw [yE (mq z)];exact z
     ·have z:=B.frzs b o u e
      rw [yE (mq z)];exact z
     ·obtain ⟨more,z⟩:=B.tbls b ps e
      exact ⟨more,by rw [yE (mq z)];exact z⟩
    ·intro a o e
     by_cases ha:a=D
     ·subst ha
      rw [jh] at e
      cases e
      exact ⟨hz,its,k,rv,(dI.2 _ iM).trans vV⟩
     ·rw [yE ha] at e
      have fG:∀b u,H3 b=some u->(upd H3 D (.lst ys)) b=some u:=λb u z=>by
       have hb:b≠D:=λw=>by rw [w,mm] at z;cases z
       rw [yE hb];exact z
      refine (I4.hok a o e).stay (λb u hb z=>(dI.2 b ?_).trans z) (λb z=>fG b _ z) λb xs z=>fG b _ z
      rcases hb with hb|hb
      ·rw [hb];exact iI e
      ·exact iI hb
   have QJ:C≠D:=λz=>iM z.symm
   have IX:=fin s4.heap ⟨rfl,λ_ _=>rfl⟩
   obtain ⟨oC,eC,pC,gC,rC⟩:=id vW
   have Fp:upd H3 D (.lst ys) C=none:=by rw [yE QJ];exact I4.free
   have Av:∀b o,aa.heap.get? b=some o->b≠C:=λb o e z=>l9 (eE e) hC z
   have Fq:C≠X.env.locals:=λz=>by
    obtain ⟨m2,fA,_⟩:=id I2.loc
    obtain ⟨o2,_,_,g2,_⟩:=fA
    exact Av _ _ g2 z.symm
   have QK:C∉X.fs:=I2.nofs (by rw [hD];omega)
   have IP:Inv X (pins++[(C,oC)]) U (upd H3 D (.lst ys)) s4:=IX.pins_of λp hp=>by
    rcases jG.mp hp with hp|hp
    ·exact IX.pin p (jm _ hp)
    ·have ep:p=(C,oC):=by simpa using hp
     subst ep
     exact ⟨gC,Fp,Fq,QK,λv z=>by rw [rC.1] at z;cases z⟩
   show wpAny _ _ (assign (.Name y pos') X.env (.ref D)) _ _ s4
   have cG:wpAny (model X.prog X.w) X.A (assign (.Name y pos') X.env (.ref D)) (λ_ s5=>Inv X (pins++[(C,oC)]) (U.set iy (some (.ref D))) (upd H3 D (.lst ys)) s5) X.xe s4:=wpAny_assign_Name (rV IP qD qE hy (v:=.ref D) rfl (λs5 I5=>I5) qF)
   refine aO cG λ_ s5 I5=>?_
   have g5:=(I5.pin (C,oC) (jm _ (jm _ yO))).1
   refine ⟨m4,⟨oC,eC,pC,g5,rC⟩,λWS dI=>yg (yg ⟨_,_,?_,q D mm⟩)⟩
   exact (I5.pins_of (pins':=pins) λp hp=>I5.pin p (jm _ (wF _ hp))).turned (it:=C) (t':=s5.toks) (λb o hb e=>(dI.2 b hb).trans e) Fp Fq
    (.inr (by have:=I2.sz;rw [hD] at this;omega)) (λa c ha z=>by
     obtain ⟨v',o',ho',_⟩:=I2.cell a c ha
     exact Av _ _ ho' z) (λp hp=>Av _ _ (I2.pin p hp).1)
  ·refine aO (T.item Y rfl rfl rfl hc i _ s3 _ H3 E' I3 (mj gM k8) aS go) λr s4 ⟨u,hr,h4⟩=>?_
   subst hr
   refine aO h4 λ_ s5 ⟨z,H5,I5,r5,y5,fO,pJ⟩=>?_
   have pK:=I5.pinned (mj gM pJ) (T.obj _ _ fO)
   have gO:PG Y (.Name x px) (gh 0):=iJ (X:=Y) hN rfl (.inl (wE S.hx)) (.inr (wE S.hx))
   have vY:PE Y elt te:=PE.nox (X:=Y) (he cl C aa H2 fp)
   refine aO (gO _ s5 (none::U) H5 z u (λai H'=>ai=some z::U/\H'=H5) pK r5 ⟨rfl,rfl⟩) λ_ s6 ⟨aF,H6,I6,e1,e2⟩=>?_
   subst e1 e2
   refine aO (vY _ s6 _ _ _ I6 (step z _ y5)) λuy s7 ⟨y,H7,I7,ry,m',hm,w7⟩=>?_
   obtain ⟨p7,mw,_,_,_⟩:=I7.pin (D,_) (jm _ (wF _ yO))
   refine wpAny_list_append_plain ⟨k,p7⟩ (λh' bX dI=>?_) (by rw [yV,<-rv.length];exact hz)
   obtain ⟨k',p8⟩:=bX
   have I8:Inv Y [] (some z::U) H7 { s7 with heap:=h' }:=(I7.pins_of (pins':=[]) (λp hp=>nomatch hp)).turned (it:=D) (t':=s7.toks) (λb o hb e=>(dI.2 b hb).trans e) mw iM
    (.inr (by show aa.heap.objs.size<=D;omega)) (λa c hy vZ=>by
     obtain ⟨v',o',ho',_⟩:=I2.cell a c (dh a c hy)
     exact jg (eE ho') vZ) (λp hp=>by simp [Y,lg] at hp)
   have I9:Inv Y [] (none::U) H7 { s7 with heap:=h' }:=I8.weak (by simp) λj v e=>by
    cases j with
    | zero=>simp at e
    | succ j=>simpa using e
   have d6:∀b∈fp,∃o,s5.heap.get? b=some o/\s7.heap.get? b=some o/\H7 b=none:=λb hb=>by
    obtain ⟨o,e,_⟩:=T.obj _ _ fO b hb
    have q:=I7.pin (b,o) (jm _ (jm _ (pI hb e)))
    exact ⟨o,e,q.1,q.2.1⟩
   have v7:∀b∈fp,b≠D:=λb hb=>by
    obtain ⟨o,ho,_⟩:=T.obj 0 _ ax b hb
    exact jg (eE ho)
   have eT:its.toArray.push uy=(its++[uy]).toArray:=by simp
   rw [eT] at p8
   refine ⟨m',hm,i+1,ys++[y],H7,its++[uy],k',I9.pins_of (fR p8 mw λv e=>by cases e),rv.append (.cons ry .nil),T.keep (i+1) _ _ fO λb hb o e=>?_,λb hb=>?_,w7⟩
   ·obtain ⟨o',e1,e2,_⟩:=d6 b hb
    rw [e] at e1
    cases e1
    exact (dI.2 b (v7 b hb)).trans e2
   ·obtain ⟨_,_,_,q⟩:=d6 b hb
    exact q
 exact codeAny_compStart_list loop (T.self X.A 0 _ _ _ (T.keep 0 _ _ ax (λb hb o e=>old b o e)) loop)
end L2
namespace Mi
open PySem L2 PySem.W PySem.Spec
section
variable {X:Cx}{Er:XK}{pos:Pos}
def Ft (X:Cx) (Er:XK) (src:zj->Mo Sq):TI:=λU H R=>∃env st ρ,a_ X.K X.mg ρ H env U/\aX X.K X.mg ρ H st/\Out X.K X.mg ρ H (src env st) (λah H' q bA=>∀J,Walk X.K X.mg J ah H' q->R J H') Er
def QL {src:zj->Mo Sq}{fe:Ai}(U:L2.St) (H:Hp) (Q:VK) (hh:tM X.K X.mg Er (jD src fe) U H Q):Dr (Ft X Er src) (tM X.K X.mg XN fe) U H Q:=by
 obtain ⟨env,st,ρ,re,rs,h⟩:=hh
 refine ⟨env,st,ρ,re,rs,h.then λap H0 q c9 e0 s0 h0 J wk=>?_⟩
 cases q with
 | im xs =>
  obtain ⟨hl,h0⟩:=Out.ifp h0
  obtain ⟨w1,w2,w3⟩:=wk
  refine ⟨λi m ys H=>m=xs.length-i/\i<=xs.length/\ys.length=i/\∃ps st ρ,Rs X.K X.mg ρ H ps ys/\aX X.K X.mg ρ H st/\Ext ap H0 ρ H/\Out X.K X.mg ρ H (cU fe env (xs.drop i) ps st) (gV X.K X.mg Q) Er,⟨xs.length,by simp,js _,rfl,[],c9,ap,rfl,s0,Ext.refl,h0⟩,?_⟩
  rintro i m ys H ⟨rfl,hi,hy,ps,st,ρ,cM,rs,ex,h⟩
  by_cases bh:i<xs.length
  ·refine .inr ⟨w1 i ρ H ex bh,jn (by omega),λv H' y=>?_⟩
   obtain ⟨x,hx,bP,s2,rx⟩:=w3 i ρ H st v H' ex rs bh y
   have hd:xs.drop i=x::xs.drop (i+1):=by
    rw [j8 bh]
    have:=(yl.mp hx).2
    rw [this]
   rw [hd] at h
   simp only [cU] at h
   refine ⟨some x::env,st,ρ,(re.ext (e0.trans (ex.trans bP))).cons rx,s2,gW (Out.ext h bP) λaj H3 y aS e3 s3 h3 v ry=>⟨xs.length-(i+1),by omega,rfl,bh,by simp [hy],ps++[y],aS,aj,Rs.snoc ry (Rs.ext (bP.trans e3) ps cM),s3,(ex.trans bP).trans e3,h3⟩⟩
  ·have e:i=xs.length:=by omega
   subst e
   rw [List.drop_length] at h
   exact .inl ⟨w2 _ ρ H ex (yk _),jn (by omega),λl hl=>Out.newList h rs cM hl⟩
 | rf n =>
  obtain ⟨a,ha,rfl⟩:=wk
  refine ⟨λi m ys H=>m+i=lim+1/\ys.length=i/\∃ps st ρ,Rs X.K X.mg ρ H ps ys/\aX X.K X.mg ρ H st/\Ext ap H0 ρ H/\ρ[n]?=some a/\Out X.K X.mg ρ H (kJ fe env n m i ps st) (gV X.K X.mg Q) Er,⟨lim+1,rfl,rfl,[],c9,ap,rfl,s0,Ext.refl,ha,h0⟩,?_⟩
  rintro i m ys H ⟨hm,hy,ps,st,ρ,cM,rs,ex,ha,h⟩
  cases m with
  | zero=>exact h.elim
  | succ m =>
   obtain ⟨xs,hn,h⟩:=jK h
   obtain ⟨vs,hH,hR⟩:=rs.addr hn ha
   cases hx:xs[i]? with
   | none =>
    simp only [hx] at h
    have:vs.length<=i:=by rw [<-hR.len];exact lU.mp hx
    exact .inl ⟨⟨vs,aZ.of hH,this⟩,jn (by omega),λl hl=>Out.newList h rs cM hl⟩
   | some x =>
    simp only [hx] at h
    obtain ⟨v,hv,rv⟩:=hR.get hx
    refine .inr ⟨⟨vs,v,aZ.of hH,hv⟩,jn (by omega),λv' H' y=>?_⟩
    obtain ⟨e1,y⟩:=y
    subst e1
    have e2:=y vs (aZ.of hH)
    rw [hv] at e2
    cases e2
    exact ⟨some x::env,st,ρ,(re.ext (e0.trans ex)).cons rv,rs,gW h λaj H3 y aS e3 s3 h3 v ry=>⟨m,wv m,by omega,by simp [hy],ps++[y],aS,aj,Rs.snoc ry (Rs.ext e3 ps cM),s3,ex.trans e3,e3.get ha,h3⟩⟩
def Fu (i:Nat) {elt iter:Expr} {x y:Str} {px pos' f7:Pos} {scope:Scope} {src:zj->Mo Sq} {fe:Ai} {M:Ad} (hc:X.calm=true) (S:du X.env.scope scope x) (eN:Hid scope M X.N) (cH:((".0" : Str)::x::M).Nodup)
  (hi:MI X Er (.Name x px) iter src) (he:∀cl C aa ag fp,ME (lg X M scope cl x C aa ag fp (λ_ _=>False)) XN elt fe) (qD:X.N.Nodup) (qE:X.N[i]?=some y) (hy:Loc X.env.scope y) (qF:X.fn y=true\/X.env.scope.names.lookup y=some .local)
  (qG:swapsWith (.ListComp elt [⟨.Name x px,iter,[],0⟩] scope pos) (some (.Name y pos')) f7.line X.env=pure true) (hs:∀v,foldedSetIterable iter X.env v=pure v:=by intro _;rfl) :
  MS X Er (.Assign [.Name y pos'] (.ListComp elt [⟨.Name x px,iter,[],0⟩] scope pos) f7) (zG i (jD src fe)) :=
 PS.weak (QI (te:=tM X.K X.mg XN fe) hc S eN cH hi (λcl C aa ag fp=>he cl C aa ag fp) qD qE hy qF qG hs) λD U H ⟨env,st,ρ,re,rs,h⟩=>by
  refine QL (X:=X) (Er:=Er) (src:=src) (fe:=fe) U H (λv H2=>D.nx (U.set i (some v)) H2) ⟨env,st,ρ,re,rs,h.then λaf H1 x ao e1 s1 h1 v rv=>?_⟩
  exact h1.now s1 (U.set i (some v)) ((re.ext e1).set i rv)
def Fv (i:Nat) {elt iter:Expr} {x y:Str} {px pos' f7:Pos} {scope:Scope} {src:zj->Mo Sq} {fe:Ai} {N:Ad} (hc:X.calm=true) (S:du X.env.scope scope x) (eN:X.N=N) (cH:((".0" : Str)::x::N).Nodup)
  (hi:MI X Er (.Name x px) iter src) (he:∀cl C aa ag fp,ME (Dp X scope cl x C aa ag fp (λ_ _=>False)) XN elt fe) (qD:X.N.Nodup) (qE:X.N[i]?=some y) (hy:Loc X.env.scope y) (qF:X.fn y=true\/X.env.scope.names.lookup y=some .local)
  (qG:swapsWith (.ListComp elt [⟨.Name x px,iter,[],0⟩] scope pos) (some (.Name y pos')) f7.line X.env=pure true) (hs:∀v,foldedSetIterable iter X.env v=pure v:=by intro _;rfl) :
  MS X Er (.Assign [.Name y pos'] (.ListComp elt [⟨.Name x px,iter,[],0⟩] scope pos) f7) (zG i (jD src fe)) :=
 Fu i hc S Hid.refl (eN▸cH) hi he qD qE hy qF qG hs
end
end Mi
namespace L2
open PySem PySem.Spec PyProof.Rows PySem.W
section
variable {X:Cx}{pins:Ac}{U:St}{H:Hp}{s:Shared}{a:Addr}{kvs:List (Key×V)}{o:Obj}
end
end L2
namespace Mi
open PySem L2 PySem.W PySem.Spec
section
variable {K:Frag}{mg:Ab}{ρ:Ae}{H:Hp}{a:Addr}{o:Obj}{kvs:List (Key×V)}{u:HO}
def qH (ha:H a=some (.frz o (.dK kvs))) {b:Addr}{w:HO}(h:H b=some w) (n:∀o k,w ≠ .frz o (.dK k)):upd H a u b=some w:=by
 rw [yE]
 ·exact h
 ·intro z;subst z;rw [ha] at h;cases h;exact n _ _ rfl
def QM (ha:H a=some (.frz o (.dK kvs))) {p:Addr}{xs:List V}(h:a5 K H p xs):a5 K (upd H a u) p xs:=by
 rcases h with (h|⟨o,h⟩)|h
 ·exact .inl (.inl (qH ha h (λ_ _=>nofun)))
 ·exact .inl (.inr ⟨o,qH ha h (λ_ _=>nofun)⟩)
 ·exact .inr h
def QN (ha:H a=some (.frz o (.dK kvs))) {p:Addr}{xs:List V}(h:kD K H p xs):kD K (upd H a u) p xs:=by
 rcases h with ⟨o,h⟩|h
 ·exact .inl ⟨o,qH ha h (λ_ _=>nofun)⟩
 ·exact .inr h
mutual
theorem R.th (ha:H a=some (.frz o (.dK kvs))):∀(x:PV) {v:V},R K mg ρ H x v->R K mg ρ (upd H a u) x v
 | .non,_,h=>h
 | .bl _,_,h=>h
 | .int _,_,h=>h
 | .str _,_,h=>h
 | .ty _,_,h=>h
 | .tup xs,_,h=>by
  obtain ⟨a,vs,h1,h2,h3⟩:=h
  exact ⟨a,vs,h1,QM ha h2,Rs.th ha xs h3⟩
 | .frl xs,_,h=>by
  obtain ⟨a,vs,h1,h2,h3⟩:=h
  exact ⟨a,vs,h1,QN ha h2,Rs.th ha xs h3⟩
 | .ref n,_,h=>h
 | .fn _,_,h=>h
 | .kd ks xs,_,h=>by
  obtain ⟨a,us,vs,h1,h2,h4,h3⟩:=h
  exact ⟨a,us,vs,h1,h2,h4,Rs.th ha xs h3⟩
 | .exo c ks xs,_,h=>by
  obtain ⟨a,C,d,vs,h1,h2,h3,h4,h5,h6⟩:=h
  exact ⟨a,C,d,vs,h1,h2,qH ha h3 (λ_ _=>nofun),qH ha h4 (λ_ _=>nofun),Rs.th ha xs h5,h6⟩
theorem Rs.th (ha:H a=some (.frz o (.dK kvs))):∀(xs:An) {vs:List V},Rs K mg ρ H xs vs->Rs K mg ρ (upd H a u) xs vs
 | [],_,h=>h
 | x::xs,_,h=>by
  obtain ⟨v,r,h1,h2,h3⟩:=h
  exact ⟨v,r,h1,R.th ha x h2,Rs.th ha xs h3⟩
end
def a_.th (ha:H a=some (.frz o (.dK kvs))) {env:zj}{U:L2.St}(h:a_ K mg ρ H env U):a_ K mg ρ (upd H a u) env U :=
 ⟨h.len,λi x hx=>let ⟨v,p,q⟩:=h.at_ i x hx;⟨v,p,R.th ha x q⟩⟩
end
section
variable {X:Cx}{Er:XK}{pos:Pos}{o:Expr}{dX:List Stmt}{gb:Aj}{fo:Ai}{fs:Ah}
end
end Mi
namespace L2
open PySem PySem.Spec PyProof.Rows PySem.W
end L2
namespace Mi
open PySem L2 PySem.W PySem.Spec
section
variable {X:Cx}{Er:XK}{K:Frag}{mg:Ab}{pos p apos a6:Pos}{o e f:Expr}{fo fk fx:Ai}
def dO:List PV->Option (List Bool)
 | []=>some []
 | .bl b::r=>(dO r).map (b::·)
 | _::_=>none
theorem Fw {ρ:Ae}{H:Hp}:∀{xs:An}{bs:List Bool}{vs:List V},dO xs=some bs->Rs K mg ρ H xs vs->vs=bs.map V.bl
 | [],bs,vs,e,h=>by cases e;cases h;rfl
 | .bl i::r,bs,vs,e,h=>by
  simp only [dO,Option.map_eq_some_iff] at e
  obtain ⟨ir,e1,rfl⟩:=e
  obtain ⟨v,r',rfl,h1,h2⟩:=h
  cases h1
  rw [Fw e1 h2]
  rfl
 | .non::_,_,_,e,_=>by cases e
 | .int _::_,_,_,e,_=>by cases e
 | .str _::_,_,_,e,_=>by cases e
 | .ty _::_,_,_,e,_=>by cases e
 | .tup _::_,_,_,e,_=>by cases e
 | .frl _::_,_,_,e,_=>by cases e
 | .ref _::_,_,_,e,_=>by cases e
 | .fn _::_,_,_,e,_=>by cases e
 | .kd _ _::_,_,_,e,_=>by cases e
 | .exo _ _ _::_,_,_,e,_=>by cases e
theorem Fx:∀bs:List Bool,dO (bs.map PV.bl)=some bs
 | []=>rfl
 | b::bs=>by simp [dO,Fx bs]
def mO:Al:=λvs st=>(kK vs st).bind λn st=>yx st n λxs=>match dO xs with
 | some bs=>.ok (.bl (bs.all id)) st
 | none=>.stuck
def QO (hc:X.calm=true):cQ X (.builtin "all") mO:=⟨_,MZ hc,fun ρ H st xs vs Q E s r h=>by
 obtain ⟨n,ys,rfl,hn,h⟩:=xZ h
 obtain ⟨dz,pE,h⟩:=jK h
 obtain ⟨v,rfl,rv⟩:=r.one
 obtain ⟨a,rfl,ha⟩:=rv
 obtain ⟨ws,hH,hR⟩:=s.addr pE ha
 cases hi:dO dz with
 | none=>simp only [hi] at h;exact h.elim
 | some bs =>
  simp only [hi] at h
  have e:=Fw hi hR
  subst e
  exact ⟨a,bs,rfl,aZ.of hH,Out.now (x:=PV.bl (bs.all id)) h s _ rfl⟩⟩
theorem QP:bootBuiltins "all" = some (.builtin "all"):=by decide +kernel
def pairOf:PV->Option (PV×PV)
 | .tup [x,y]=>some (x,y)
 | _=>none
def QQ {q:PV}{r:PV×PV}(h:pairOf q=some r):q=.tup [r.1,r.2]:=by
 unfold pairOf at h
 split at h
 ·cases h;rfl
 ·cases h
def wU (fe:Ai) (env:zj):List PV->Al
 | [],ys,st=>.ok (.ref st.length) (st++[.lst ys])
 | q::xs,ys,st=>match pairOf q with
  | some r=>(cT (fe (some r.1::some r.2::env) st)).bind λz ao=>wU fe env xs (ys++[z]) ao
  | none=>.stuck
def QR {fe:Ai}{env:zj}{q:PV}{xs ys:An}{st:ae}{ρ:Ae}{H:Hp}{good:List Addr->Hp->PV->ae->Prop}(h:Out K mg ρ H (wU fe env (q::xs) ys st) good Er):∃x y,q=.tup [x,y]/\Out K mg ρ H ((cT (fe (some x::some y::env) st)).bind λz ao=>wU fe env xs (ys++[z]) ao) good Er:=by
 simp only [wU] at h
 cases hq:pairOf q with
 | none=>simp only [hq] at h;exact h.elim
 | some r =>
  simp only [hq] at h
  exact ⟨r.1,r.2,QQ hq,h⟩
def vi:Sq->Option (An)
 | .im xs=>some xs
 | .rf _=>none
def Aw (src:zj->Mo Sq) (fe:Ai):Ai:=λenv st=>(src env st).bind λq ao=>match vi q with
 | some xs=>if xs.length<=lim then wU fe env xs [] ao else .stuck
 | none=>.stuck
def QS {elt iter:Expr} {x y:Str} {kt:Nat} {px py tp:Pos} {scope:Scope} {src:zj->Mo Sq} {fe:Ai} {N:Ad} (hc:X.calm=true) (S:dv X.env.scope scope [x,y]) (eN:X.N=N) (cH:((".0" : Str)::([x,y]++N)).Nodup)
  (hi:MI X Er (.Tuple [.Name x px,.Name y py] kt tp) iter src) (he:∀cl C aa ag fp,ME (eD X scope cl [x,y] C aa ag fp (λ_ _=>False)) XN elt fe)
  (hx:scope.names.lookup x=some .local:=by rfl) (hy:scope.names.lookup y=some .local:=by rfl) (hs:∀v,foldedSetIterable iter X.env v=pure v:=by intro _;rfl) :
  ME X Er (.ListComp elt [⟨.Tuple [.Name x px,.Name y py] kt tp,iter,[],0⟩] scope pos) (Aw src fe):=by
 have hN:([x,y]++X.N).Nodup:=by rw [eN];exact (jB.mp cH).2
 have gO:∀cl C aa ag fp E,PG (eD X scope cl [x,y] C aa ag fp E) (.Tuple [.Name x px,.Name y py] kt tp) (vB X.K 2 (pG (gh 0) (pG (gh 1) vz))):=λcl C aa ag fp E=>vC (n:=2) hc
  (nX (iJ (X:=eD X scope cl [x,y] C aa ag fp E) (i:=0) hN rfl (.inl (wE hx)) (.inr (wE hx)))
  (nX (iJ (X:=eD X scope cl [x,y] C aa ag fp E) (i:=1) hN rfl (.inl (wE hy)) (.inr (wE hy))) vA))
 exact PE.weak (v8 (te:=tM X.K X.mg XN fe) (tt:=og) hc S eN cH hi gO (λcl C aa ag fp=>Dt) (λcl C aa ag fp=>he cl C aa ag fp) hs) λU H Q ⟨env,st,ρ,re,rs,h⟩=>⟨env,st,ρ,re,rs,h.then λap H0 q c9 e0 s0 h0 J wk=>by
  cases q with
  | rf n=>exact h0.elim
  | im xs =>
   obtain ⟨hl,h0⟩:=Out.ifp (show Out X.K X.mg ap H0 (if xs.length<=lim then wU fe env xs [] c9 else .stuck) (gV X.K X.mg Q) Er from h0)
   obtain ⟨w1,w2,w3⟩:=wk
   refine ⟨λi m ys H=>m=xs.length-i/\i<=xs.length/\ys.length=i/\∃ps st ρ,Rs X.K X.mg ρ H ps ys/\aX X.K X.mg ρ H st/\Ext ap H0 ρ H/\Out X.K X.mg ρ H (wU fe env (xs.drop i) ps st) (gV X.K X.mg Q) Er,⟨xs.length,by simp,js _,rfl,[],c9,ap,rfl,s0,Ext.refl,h0⟩,?_⟩
   rintro i m ys H ⟨rfl,hi,hy,ps,st,ρ,cM,rs,ex,h⟩
   by_cases bh:i<xs.length
   ·refine .inr ⟨w1 i ρ H ex bh,jn (by omega),λv H' yy=>?_⟩
    obtain ⟨x,hx,bP,s2,rx⟩:=w3 i ρ H st v H' ex rs bh yy
    have hd:xs.drop i=x::xs.drop (i+1):=by
     rw [j8 bh]
     have:=(yl.mp hx).2
     rw [this]
    rw [hd] at h
    obtain ⟨p,q,rfl,h⟩:=QR h
    obtain ⟨a,vs,rfl,h1,h2⟩:=rx
    obtain ⟨u,w,rfl,r1,r2⟩:=Rs.two h2
    refine ⟨a,[u,w],rfl,h1,rfl,u,[w],rfl,w,[],rfl,rfl,[some u,some w],rfl,rfl,?_⟩
    have iU:a_ X.K X.mg ρ H' (some p::some q::env) (some u::some w::U):=((re.ext (e0.trans (ex.trans bP))).cons r2).cons r1
    simp only [og,↓reduceIte]
    exact ⟨_,st,ρ,iU,s2,gW (Out.ext h bP) λaD H4 y fg e4 s4 h4 v4 r4=>⟨xs.length-(i+1),by omega,rfl,bh,by simp [hy],ps++[y],fg,aD,Rs.snoc r4 (Rs.ext (bP.trans e4) ps cM),s4,(ex.trans bP).trans e4,h4⟩⟩
   ·have e:i=xs.length:=by omega
    subst e
    rw [List.drop_length] at h
    exact .inl ⟨w2 _ ρ H ex (yk _),jn (by omega),λl hl=>Out.newList h rs cM hl⟩⟩
def tP:List ((Ai)×(Ai))->zj->Mo (List PV×List PV)
 | [],_,st=>.ok ([],[]) st
 | q::r,env,st=>(q.1 env st).bind λk ao=>(q.2 env ao).bind λx ax=>(tP r env ax).bind λz aS=>.ok (k::z.1,x::z.2) aS
inductive g7 (X:Cx) (Er:XK):List (Option Expr)->List Expr->List ((Ai)×(Ai))->Prop
 | nil:g7 X Er [] [] []
 | cons {k v:Expr} {fk fv:Ai} {ks:List (Option Expr)} {vs:List Expr} {fs:List ((Ai)×(Ai))} (hk:ME X Er k fk) (hv:ME X Er v fv) (hr:g7 X Er ks vs fs):g7 X Er (some k::ks) (v::vs) ((fk,fv)::fs)
def zrI:g7 X Er [] [] []:=.nil
def zi8 {k v:Expr}{fk fv:Ai}{ks:List (Option Expr)}{vs:List Expr}{fs:List ((Ai)×(Ai))}(hk:ME X Er k fk) (hv:ME X Er v fv) (hr:g7 X Er ks vs fs):g7 X Er (some k::ks) (v::vs) ((fk,fv)::fs):=.cons hk hv hr
theorem g7.pps:∀{ks:List (Option Expr)}{vs:List Expr}{fs:List ((Ai)×(Ai))},g7 X Er ks vs fs->qc X pos ks vs (fs.map λq=>(tM X.K X.mg Er q.1,tM X.K X.mg Er q.2))
 | _,_,_,.nil=>Nd
 | _,_,_,.cons hk hv hr=>Nf hk hv hr.pps
def g7.len {ks:List (Option Expr)}{vs:List Expr}{fs:List ((Ai)×(Ai))}(h:g7 X Er ks vs fs):ks.length=vs.length/\ks.length=fs.length/\ks.all (·.isSome)=true:=by
 induction h with
 | nil=>exact ⟨rfl,rfl,rfl⟩
 | cons hk hv hr ih=>exact ⟨by simp [ih.1],by simp [ih.2.1],by simpa using ih.2.2⟩
theorem Fy:∀{fs:List ((Ai)×(Ai))}{env:zj}{st:ae}{ρ:Ae}{H:Hp}{U:L2.St}{Q:List (V×V)->Hp->Prop},a_ K mg ρ H env U->aX K mg ρ H st ->
  Out K mg ρ H (tP fs env st) (λah H' q bA=>q.1.length=fs.length->q.2.length=fs.length->∀ks vs,Rs K mg ah H' q.1 ks->Rs K mg ah H' q.2 vs->Q (ks.zip vs) H') Er->sE (fs.map λq=>(tM K mg Er q.1,tM K mg Er q.2)) U H Q
 | [],env,st,ρ,H,U,Q,re,rs,h=>h.now rs rfl rfl [] [] rfl rfl
 | f::fs,env,st,ρ,H,U,Q,re,rs,h=>by
  refine ⟨env,st,ρ,re,rs,Out.then h λaf H1 k ao e1 s1 h1 v rv=>?_⟩
  refine ⟨env,ao,af,re.ext e1,s1,Out.then h1 λam H2 x ax e2 s2 h2 u ru=>?_⟩
  refine Fy (env:=env) (st:=ax) (ρ:=am) ((re.ext e1).ext e2) s2 (Out.then h2 λaj H3 z aS e3 s3 h3 l1 l2 ks vs rk xr=>?_)
  exact h3.now s3 (by simp [l1]) (by simp [l2]) (v::ks) (u::vs) ⟨v,ks,rfl,R.ext e3 k (R.ext e2 k rv),rk⟩ ⟨u,vs,rfl,R.ext e3 x ru,xr⟩
def g8:List PV->Option (Ad)
 | []=>some []
 | .str z::r=>(g8 r).map (z::·)
 | _::_=>none
theorem Fz {ρ:Ae}{H:Hp}:∀{xs:An}{zs:Ad}{vs:List V},g8 xs=some zs->Rs K mg ρ H xs vs->vs=zs.map V.str
 | [],bs,vs,e,h=>by cases e;cases h;rfl
 | .str i::r,bs,vs,e,h=>by
  simp only [g8,Option.map_eq_some_iff] at e
  obtain ⟨ir,e1,rfl⟩:=e
  obtain ⟨v,r',rfl,h1,h2⟩:=h
  cases h1
  rw [Fz e1 h2]
  rfl
 | .non::_,_,_,e,_=>by cases e
 | .int _::_,_,_,e,_=>by cases e
 | .bl _::_,_,_,e,_=>by cases e
 | .ty _::_,_,_,e,_=>by cases e
 | .tup _::_,_,_,e,_=>by cases e
 | .frl _::_,_,_,e,_=>by cases e
 | .ref _::_,_,_,e,_=>by cases e
 | .fn _::_,_,_,e,_=>by cases e
 | .kd _ _::_,_,_,e,_=>by cases e
 | .exo _ _ _::_,_,_,e,_=>by cases e
def qI (fs:List ((Ai)×(Ai))):Ai:=λenv st=>(tP fs env (st++[.dic [] []])).bind λq ao=>match g8 q.1 with
 | some zs=>if kL ao[st.length]?=true then .ok (.ref st.length) (ao.set st.length (.dic (lG (zs.zip q.2) [] []).1 (lG (zs.zip q.2) [] []).2)) else .stuck
 | none=>.stuck
theorem QT {keys:List (Option Expr)}{values:List Expr}{fs:List ((Ai)×(Ai))}(h:g7 X Er keys values fs) (h0:keys≠[]) (xc:keys.length<=15):ME X Er (.Dict keys values pos) (qI fs):=by
 obtain ⟨l1,l2,l4⟩:=h.len
 exact PE.weak (Nh h.pps l4 l1 h0 xc) λU H Q ⟨env,st,ρ,re,rs,ho⟩=>λp hp=>by
  have e0:Ext ρ H (ρ++[p]) (upd H p (.dK [])):=Ext.push hp
  have s0:aX X.K X.mg (ρ++[p]) (upd H p (.dK [])) (st++[.dic [] []]):=rs.push hp ⟨[],jh,rfl,rfl⟩
  have QU:(ρ++[p])[st.length]?=some p:=by rw [<-rs.len];simp
  refine Fy (re.ext e0) s0 (Out.then (Out.ext ho e0) λaf H1 q ao e1 s1 h1 lk lv us vs ru rv=>?_)
  cases hk:g8 q.1 with
  | none=>simp only [hk] at h1;exact h1.elim
  | some zs =>
   simp only [hk] at h1
   have eu:=Fz hk ru
   subst eu
   obtain ⟨c,h1⟩:=Out.ifp h1
   have hd:=Qm c
   have Ax:=e1.get QU
   obtain ⟨ws,k1,k2,k3⟩:=s1.addr hd Ax
   have ew:ws=[]:=by cases ws with|nil=>rfl|cons=>simp at k3
   subst ew
   have lz:zs.length=fs.length:=by have:=ru.len;simpa [lk] using this.symm
   refine ⟨k1,(zs.map Sum.inr:List Key).zip vs,EO,by rw [List.length_zip,yM];omega,?_⟩
   have eq:Ext af H1 af (upd H1 p (.dK (eh [] ((zs.map Sum.inr:List Key).zip vs)))):=Ext.write k1 rfl
   obtain ⟨us,q1,q2,q3⟩:=EC (K:=X.K) (mg:=X.mg) (zs:=zs) (ks:=[]) (xs:=[]) (vs:=[]) rv rfl rfl
   exact h1 af _ eq (s1.write Ax eq ⟨us,by rw [jh];exact congrArg (λt=>some (HO.dK t)) q1,Rs.ext eq _ q2,q3⟩) _ ⟨p,rfl,Ax⟩
end
section
variable {K:Frag}{mg:Ab}{h:Heap}
end
section
variable {X:Cx}{Er:XK}{K:Frag}{mg:Ab}
def call_len_dict:bZ X (.builtin "len") (λxs H Q=>∃p kvs,xs=[.ref p]/\H p=some (.dK kvs)/\Q (.int kvs.length) H):=by
 intro pins s U H xs us Q I r h
 obtain ⟨p,kvs,rfl,hp,q⟩:=h
 obtain ⟨u,rfl,rx⟩:=lX r
 cases rx
 exact M8 I (.inl hp) λt s' I'=>⟨.int kvs.length,H,I',⟨t,rfl⟩,q⟩
def yH:Al:=λxs st=>match xs with
 | [.ref n]=>match st[n]? with
  | some (.dic ks _)=>.ok (.int ks.length) st
  | _=>sY xs st
 | _=>sY xs st
def jS:cQ X (.builtin "len") yH:=by
 obtain ⟨r,h1,h2⟩:=Oj (X:=X)
 refine ⟨_,h1.or call_len_dict,fun ρ H st xs vs Q E s rx h=>?_⟩
 by_cases hx:∃n ks ys,xs=[.ref n]/\st[n]?=some (.dic ks ys)
 ·obtain ⟨n,ks,ys,rfl,e⟩:=hx
  have h:Out X.K X.mg ρ H (.ok (.int ks.length) st) (gV X.K X.mg Q) E:=by
   simpa only [yH,e] using h
  obtain ⟨v,rfl,rv⟩:=Rs.one rx
  obtain ⟨a,ws,rfl,_,k1,k2,k3⟩:=R.refD s rv e
  refine .inr ⟨a,_,rfl,k1,?_⟩
  have hl:(kz ks ws).length=ks.length:=by simp [kz,k3]
  rw [hl]
  exact Out.now (x:=PV.int ks.length) h s _ rfl
 ·refine .inl (h2 ρ H st xs vs Q E s rx ?_)
  have:yH xs st=sY xs st:=by
   unfold yH
   split
   ·rename_i n
    split
    ·rename_i ks ys e;exact absurd ⟨n,ks,ys,rfl,e⟩ hx
    ·rfl
   ·rfl
  rw [this] at h
  exact h
end
section
variable {α:Type}{env:zj}{st:ae}{fa fb fo fk fx:Ai}{fs:Ah}{g:Aj}
def QV {n:Nat}{ks:Ad}{xs:An}(h:st[n]?=some (.dic ks xs)) (k:List Str->List PV->Res α):jY st n k=k ks xs:=by unfold jY;rw [h]
def QW {n:Nat}{xs:An}(h:st[n]?=some (.lst xs)):kK [.ref n] st=.ok n st:=by
 show yx st n _=_
 rw [yD h]
def QX {n:Nat}{bs:List Bool}(h:st[n]?=some (.lst (bs.map PV.bl))):mO [.ref n] st=.ok (.bl (bs.all id)) st:=by
 unfold mO
 rw [QW h]
 simp only [zJ]
 rw [yD h,Fx]
def wV {n:Nat}{xs:An}(h:st[n]?=some (.lst xs)):yH [.ref n] st=.ok (.int xs.length) st:=by
 simp only [yH,h]
 show yx st n _=_
 rw [yD h]
@[simp] def oK (xs:An):yH [.tup xs] st=.ok (.int xs.length) st:=(rfl)
@[simp] def WT (xs:An):yH [.frl xs] st=.ok (.int xs.length) st:=(rfl)
@[simp] def QY (src:zj->Mo Sq):Aw src fa env st=(src env st).bind λq ao=>match vi q with|some xs=>if xs.length<=lim then wU fa env xs [] ao else .stuck|none=>.stuck:=(rfl)
end
end Mi
namespace L2
open PySem PySem.Spec PyProof.Rows PySem.W
section
variable {X:Cx}
end
end L2
namespace Mi
open PySem L2 PySem.W PySem.Spec
section
variable {X:Cx}{Er:XK}{pos:Pos}{K:Frag}{mg:Ab}{fs:Ah}
end
end Mi
namespace PySem
open Sem (wp)
section
variable {prog:Program}{w:World}{A:Around}{s:Shared}{R:Result->Shared->Prop}
variable {I:Addr}{fp wr:Ae}{G:Array GenState->Array GenState->Prop}{n:Nat}{P:Nat->Value->Prop}{St:Nat->Shared->Prop}
end
section
variable {prog:Program}{w:World}{A:Around}{s:Shared}{R:Result->Shared->Prop}
variable {I:Addr}{fp wr:Ae}{G:Array GenState->Array GenState->Prop}{n:Nat}{P:Nat->Value->Prop}{St:Nat->Shared->Prop}
end
section
variable {prog:Program}{w:World}{A:Around}{E:Aa}{s:Shared}
variable {I:Addr}{fp wr:Ae}{G:Array GenState->Array GenState->Prop}{n:Nat}{P:Nat->Value->Prop}{St:Nat->Shared->Prop}
end
end PySem
namespace L2
open PySem PySem.Spec PyProof.Rows PySem.W
section
variable {X:Cx}
end
end L2
namespace Mi
open PySem L2 PySem.W PySem.Spec
section
variable {X:Cx}{Er:XK}{pos:Pos}{K:Frag}{mg:Ab}{fs:Ah}
end
section
variable {X:Cx}{Er:XK}{pos pos':Pos}{o i value:Expr}{fo fi fv:Ai}
def dP (z x:PV):PV->Mo Unit
 | .ref n,st=>match z with
  | .int (.ofNat k)=>yx st n λxs=>if k<xs.length then .ok () (st.set n (.lst (xs.set k x))) else .stuck
  | _=>.stuck
 | _,_=>.stuck
def mP (fo fi fv:Ai):Aj:=λenv st=>(fv env st).bind λx ao=>(fo env ao).bind λo ax=>(fi env ax).bind λz aS=>(dP z x o aS).bind λ_ fg=>.ok (.nx env) fg
theorem Rs.put {K:Frag}{mg:Ab}{ρ:Ae}{H:Hp}{x:PV}{v:V}(r:R K mg ρ H x v):∀{xs:An}{vs:List V}(k:Nat),Rs K mg ρ H xs vs->Rs K mg ρ H (xs.set k x) (vs.set k v)
 | [],_,k,h=>by cases h;cases k<;>rfl
 | y::ys,_,0,h=>by
  obtain ⟨w,q,rfl,h1,h2⟩:=h
  exact ⟨v,q,rfl,r,h2⟩
 | y::ys,_,k+1,h=>by
  obtain ⟨w,q,rfl,h1,h2⟩:=h
  exact ⟨w,_,rfl,h1,Rs.put r k h2⟩
theorem zjb (ho:ME X Er o fo) (hi:ME X Er i fi) (hv:ME X Er value fv)
  (ha:∀v,assign (.Subscript o i pos') X.env v=(do
   let ov <-holding [v] (eval o X.env)
   let iv <-holding [v,ov] (eval i X.env)
   standAt pos'
   holding [v,ov,iv] (setItem ov iv v)
   release [v,ov,iv] []):=by intro _;rfl)
  (hs:swapsWithSole [.Subscript o i pos'] value pos.line X.env=pure false:=by rfl) (hw:swappedStores [.Subscript o i pos'] value X.env=pure none:=by rfl)
  (h1:(assignEach [.Subscript o i pos'] X.env).map (·.2)=[assign (.Subscript o i pos') X.env]:=by rfl):MS X Er (.Assign [.Subscript o i pos'] value pos) (mP fo fi fv) :=
 PS.weak (CD hv (Kr ho hi Mn ha) hs hw h1) λD U H ⟨env,st,ρ,re,rs,h⟩=>⟨env,st,ρ,re,rs,h.then λaf H1 x ao e1 s1 h1 v rv=>⟨env,ao,af,re.ext e1,s1,h1.then λam H2 y ax e2 s2 h2 w rw=>⟨env,ax,am,(re.ext e1).ext e2,s2,h2.then λaj H3 zz aS e3 s3 h3 u ru=>by
  cases y with
  | ref n =>
   cases zz with
   | int z =>
    cases z with
    | ofNat k =>
     cases hn:aS[n]? with
     | none=>simp only [dP,yx,hn] at h3;exact h3.elim
     | some so =>
      cases so with
      | dic _ _=>simp only [dP,yx,hn] at h3;exact h3.elim
      | ins _ _ _=>simp only [dP,yx,hn] at h3;exact h3.elim
      | fdi _ _=>simp only [dP,yx,hn] at h3;exact h3.elim
      | dit _ _=>simp only [dP,yx,hn] at h3;exact h3.elim
      | lst xs =>
       simp only [dP,yx,hn] at h3
       by_cases hc:k<xs.length
       ·rw [zF hc] at h3
        obtain ⟨a,vs,e4,ha,k1,k2⟩:=R.refL s3 (R.ext e3 _ rw) hn
        subst e4
        cases ru
        have QZ:vs.length=xs.length:=k2.len.symm
        have ew:Ext aj H3 aj (upd H3 a (.lst (vs.set k v))):=Ext.write k1 rfl
        have Q0:ko vs.length (Int.ofNat k)=some k:=by
         unfold ko
         rw [zF (by show (0:Int)<=((k:Nat):Int);omega),zF (by rw [QZ];show ((k:Nat):Int)<xs.length;omega)]
         rfl
        refine ⟨a,vs,_,k,rfl,rfl,k1,Q0,h3 aj _ ew (s3.write ha ew ⟨vs.set k v,jh,Rs.ext ew _ (Rs.put (R.ext e3 x (R.ext e2 x rv)) k k2)⟩) U ((((re.ext e1).ext e2).ext e3).ext ew)⟩
       ·rw [zR hc] at h3;exact h3.elim
    | negSucc k=>exact h3.elim
   | _=>exact h3.elim
  | _=>exact h3.elim⟩⟩⟩
end
section
variable {X:Cx}
end
end Mi
namespace L2
open PySem PySem.Spec PyProof.Rows PySem.W
section
variable {prog:Program}{w:World}{A:Around}{E:Aa}{s:Shared}
end
section
variable {X:Cx}{pos:Pos}
end
end L2
namespace Mi
open PySem L2 PySem.W PySem.Spec
section
variable {X:Cx}{Er:XK}{pos:Pos}{e:Expr}{fa:Ai}
end
end Mi
namespace L2
open PySem PySem.Spec PyProof.Rows PySem.W
section
variable {prog:Program}{w:World}{A:Around}{E:Aa}{s:Shared}
end
end L2
namespace Mi
open PySem L2 PySem.W PySem.Spec
section
variable {X:Cx}{Er:XK}{pos:Pos}{dX:List Stmt}{gb:Aj}{fs:Ah}
end
end Mi
namespace L2
open PySem PySem.Spec PyProof.Rows PySem.W
section
variable {prog:Program}{w:World}{A:Around}{E:Aa}{s:Shared}
end
end L2
namespace Mi
open PySem L2 PySem.W PySem.Spec
section
variable {X:Cx}
end
end Mi
namespace L2
open PySem PySem.Spec PyProof.Rows PySem.W
end L2
namespace Mi
open PySem L2 PySem.W PySem.Spec
section
variable {X:Cx}{Er:XK}{pos:Pos}
def fL (ft:Ak) (fe:Ai) (env:zj):List PV->Al
 | [],ys,st=>.ok (.ref st.length) (st++[.lst ys])
 | x::xs,ys,st=>(cT (ft (some x::env) st)).bind λb ao=>if b=true then (cT (fe (some x::env) ao)).bind λy ax=>fL ft fe env xs (ys++[y]) ax else fL ft fe env xs ys ao
def dQ (ft:Ak) (fe:Ai) (env:zj) (n:Nat):Nat->Nat->Al
 | 0,_,_,_=>.stuck
 | m+1,i,ys,st=>yx st n λxs=>match xs[i]? with
  | none=>.ok (.ref st.length) (st++[.lst ys])
  | some x=>(cT (ft (some x::env) st)).bind λb ao=>if b=true then (cT (fe (some x::env) ao)).bind λy ax=>dQ ft fe env n m (i+1) (ys++[y]) ax else dQ ft fe env n m (i+1) ys ao
def nP (ft:Ak) (fe:Ai) (env:zj):Sq->Mo PV
 | .im xs,st=>if xs.length<=lim then fL ft fe env xs [] st else .stuck
 | .rf n,st=>dQ ft fe env n (lim+1) 0 [] st
def lJ (src:zj->Mo Sq) (ft:Ak) (fe:Ai):Ai:=λenv st=>(src env st).bind λq ao=>nP ft fe env q ao
theorem Q1 {src:zj->Mo Sq}{ft:Ak}{fe:Ai}(U:L2.St) (H:Hp) (Q:VK) (hh:tM X.K X.mg Er (lJ src ft fe) U H Q):vQ (Ft X Er src) (gh 0) (oy X.K X.mg XN ft) (tM X.K X.mg XN fe) 1 U H Q:=by
 obtain ⟨env,st,ρ,re,rs,h⟩:=hh
 refine ⟨env,st,ρ,re,rs,h.then λap H0 q c9 e0 s0 h0 J wk=>?_⟩
 cases q with
 | im xs =>
  obtain ⟨hl,h0⟩:=Out.ifp h0
  obtain ⟨w1,w2,w3⟩:=wk
  refine ⟨λi m ys H=>m=xs.length-i/\i<=xs.length/\ys.length<=i/\∃ps st ρ,Rs X.K X.mg ρ H ps ys/\aX X.K X.mg ρ H st/\Ext ap H0 ρ H/\Out X.K X.mg ρ H (fL ft fe env (xs.drop i) ps st) (gV X.K X.mg Q) Er,⟨xs.length,by simp,js _,js _,[],c9,ap,rfl,s0,Ext.refl,h0⟩,?_⟩
  rintro i m ys H ⟨rfl,hi,hy,ps,st,ρ,cM,rs,ex,h⟩
  by_cases bh:i<xs.length
  ·refine .inr ⟨w1 i ρ H ex bh,jn (by omega),λv H' y=>?_⟩
   obtain ⟨x,hx,bP,s2,rx⟩:=w3 i ρ H st v H' ex rs bh y
   have hd:xs.drop i=x::xs.drop (i+1):=by
    rw [j8 bh]
    have:=(yl.mp hx).2
    rw [this]
   rw [hd] at h
   simp only [fL] at h
   have iU:a_ X.K X.mg ρ H' (some x::env) (some v::U):=(re.ext (e0.trans (ex.trans bP))).cons rx
   refine ⟨[some v],rfl,rfl,some x::env,st,ρ,iU,s2,gW (Out.ext h bP) λaj H3 b aS e3 s3 h3=>?_⟩
   cases b with
   | true=>exact ⟨_,aS,aj,iU.ext e3,s3,gW h3 λaD H4 y fg e4 s4 h4 v4 r4=>⟨xs.length-(i+1),by omega,rfl,bh,by simp;omega,ps++[y],fg,aD,Rs.snoc r4 (Rs.ext ((bP.trans e3).trans e4) ps cM),s4,((ex.trans bP).trans e3).trans e4,h4⟩⟩
   | false=>exact ⟨xs.length-(i+1),by omega,rfl,bh,by omega,ps,aS,aj,Rs.ext (bP.trans e3) ps cM,s3,(ex.trans bP).trans e3,h3⟩
  ·have e:i=xs.length:=by omega
   subst e
   rw [List.drop_length] at h
   exact .inl ⟨w2 _ ρ H ex (yk _),jn (by omega),λl hl=>Out.newList h rs cM hl⟩
 | rf n =>
  obtain ⟨a,ha,rfl⟩:=wk
  refine ⟨λi m ys H=>m+i=lim+1/\ys.length<=i/\∃ps st ρ,Rs X.K X.mg ρ H ps ys/\aX X.K X.mg ρ H st/\Ext ap H0 ρ H/\ρ[n]?=some a/\Out X.K X.mg ρ H (dQ ft fe env n m i ps st) (gV X.K X.mg Q) Er,⟨lim+1,rfl,js _,[],c9,ap,rfl,s0,Ext.refl,ha,h0⟩,?_⟩
  rintro i m ys H ⟨hm,hy,ps,st,ρ,cM,rs,ex,ha,h⟩
  cases m with
  | zero=>exact h.elim
  | succ m =>
   obtain ⟨xs,hn,h⟩:=jK h
   obtain ⟨vs,hH,hR⟩:=rs.addr hn ha
   cases hx:xs[i]? with
   | none =>
    simp only [hx] at h
    have:vs.length<=i:=by rw [<-hR.len];exact lU.mp hx
    exact .inl ⟨⟨vs,aZ.of hH,this⟩,jn (by omega),λl hl=>Out.newList h rs cM hl⟩
   | some x =>
    simp only [hx] at h
    obtain ⟨v,hv,rv⟩:=hR.get hx
    refine .inr ⟨⟨vs,v,aZ.of hH,hv⟩,jn (by omega),λv' H' y=>?_⟩
    obtain ⟨e1,y⟩:=y
    subst e1
    have e2:=y vs (aZ.of hH)
    rw [hv] at e2
    cases e2
    have iU:a_ X.K X.mg ρ H' (some x::env) (some v::U):=(re.ext (e0.trans ex)).cons rv
    refine ⟨[some v],rfl,rfl,some x::env,st,ρ,iU,rs,gW h λaj H3 b aS e3 s3 h3=>?_⟩
    cases b with
    | true=>exact ⟨_,aS,aj,iU.ext e3,s3,gW h3 λaD H4 y fg e4 s4 h4 v4 r4=>⟨m,wv m,by omega,by simp;omega,ps++[y],fg,aD,Rs.snoc r4 (Rs.ext (e3.trans e4) ps cM),s4,(ex.trans e3).trans e4,e4.get (e3.get ha),h4⟩⟩
    | false=>exact ⟨m,wv m,by omega,by omega,ps,aS,aj,Rs.ext e3 ps cM,s3,ex.trans e3,e3.get ha,h3⟩
def FA {elt iter c:Expr} {x:Str} {px:Pos} {scope:Scope} {src:zj->Mo Sq} {ft:Ak} {fe:Ai} {N:Ad} (hc:X.calm=true) (S:dv X.env.scope scope [x]) (eN:X.N=N) (cH:((".0" : Str)::([x]++N)).Nodup)
  (hi:MI X Er (.Name x px) iter src) (ma:∀cl C aa ag fp,MT (eD X scope cl [x] C aa ag fp (λ_ _=>False)) XN c ft) (he:∀cl C aa ag fp,ME (eD X scope cl [x] C aa ag fp (λ_ _=>False)) XN elt fe)
  (hx:scope.names.lookup x=some .local:=by rfl) (hs:∀v,foldedSetIterable iter X.env v=pure v:=by intro _;rfl):ME X Er (.ListComp elt [⟨.Name x px,iter,[c],0⟩] scope pos) (lJ src ft fe):=by
 have hN:([x]++X.N).Nodup:=by rw [eN];exact (jB.mp cH).2
 have gO:∀cl C aa ag fp E,PG (eD X scope cl [x] C aa ag fp E) (.Name x px) (gh 0):=λcl C aa ag fp E=>iJ (X:=eD X scope cl [x] C aa ag fp E) (i:=0) hN rfl (.inl (wE hx)) (.inr (wE hx))
 exact PE.weak (v8 (te:=tM X.K X.mg XN fe) (tt:=oy X.K X.mg XN ft) hc S eN cH hi gO (λcl C aa ag fp=>Du (ma cl C aa ag fp)) (λcl C aa ag fp=>he cl C aa ag fp) hs) λU H Q hh=>Q1 U H Q hh
@[simp] def FC {src:zj->Mo Sq}{ft:Ak}{fe:Ai}(env:zj) (st:ae):lJ src ft fe env st=(src env st).bind λq ao=>nP ft fe env q ao:=(rfl)
end
section
variable {K:Frag}{h:Heap}{mg:Ab}{od:Option Addr}{f:Addr}
end
section
variable {X:Cx}{Er:XK}{pos:Pos}
end
section
variable {X:Cx}{Er:XK}{pos:Pos}
end
section
variable {X:Cx}{Er:XK}{pos pos':Pos}{o i value:Expr}{fo fi fv:Ai}
end
end Mi
namespace L2
open PySem PySem.Spec PyProof.Rows PySem.W
section
variable {X:Cx}
end
end L2
namespace Mi
open PySem L2 PySem.W PySem.Spec
section
variable {X:Cx}{Er:XK}
end
section
variable {X:Cx}{K:Frag}{mg:Ab}
end
end Mi
namespace Mi
open PySem L2 PySem.W
section
variable {α:Type}{g g':Aj}{f fa fb fc:Ai}{fs:Ah}{t ta tb:Ak}{e e1:zj}{st s1 s2 s3:ae}{x y v:PV}{xs:An}{b:Bool}
def zy {X:Res Fl}(h:g e st=.ok (.nx e1) s1) (h':g' e1 s1=X):zw g g' e st=X:=by rw [Em,h,zJ,Pn,h']
def jf (h:g e st=.ok (.rt v) s1):zw g g' e st=.ok (.rt v) s1:=by rw [Em,h,zJ,Po]
def zN {i:Nat}(h:f e st=.ok v s1):zG i f e st=.ok (.nx (e.set i (some v))) s1:=by rw [Pp,h,zJ]
def wW (h:f e st=.ok v s1):yT f e st=.ok (.nx e) s1:=by rw [Pq,h,zJ]
def yh (h:f e st=.ok v s1):zV f e st=.ok (.rt v) s1:=by rw [Pu,h,zJ]
def yJ {X:Res Fl}(h:t e st=.ok true s1) (h':g e s1=X):zZ t g g' e st=X:=by rw [En,h,zJ,zF rfl,h']
def Ay {X:Res Fl}(h:t e st=.ok false s1) (h':g' e s1=X):zZ t g g' e st=X:=by rw [En,h,zJ,zR (by simp),h']
def yu (h:t e st=.ok false s1):zZ t g ye e st=.ok (.nx e) s1:=Ay h (Pm ..)
def zf {i:Nat}(h:e[i]?=some (some v)):zc i e st=.ok v st:=by rw [O7,h]
def zo {op:Am}{X:Res PV}(h:fa e st=.ok x s1) (h':fb e s1=.ok y s2) (h2:op x y s2=X):ze op fa fb e st=X:=by rw [O8,h,zJ,h',zJ,h2]
def qJ {op:PV->Mo PV}{X:Res PV}(h:fa e st=.ok x s1) (h2:op x s1=X):wn op fa e st=X:=by rw [O9,h,zJ,h2]
def zD {m:Al}{X:Res PV}(h:fs e st=.ok xs s1) (h2:m xs s1=X):zu m fs e st=X:=by rw [Pj,h,zJ,h2]
def wX (h:f e st=.ok x s1) (h':fs e s1=.ok xs s2):zd f fs e st=.ok (x::xs) s2:=by rw [Pb,h,zJ,h',zJ]
def jO:zm e st=.ok [] st:=(rfl)
def zM (h:f e st=.ok x s1):zd f zm e st=.ok [x] s1:=wX h jO
def zX (h:f e st=.ok x s1) (h':fa e s1=.ok y s2):zd f (zd fa zm) e st=.ok [x,y] s2:=wX h (zM h')
def ya (h:fs e st=.ok xs s1) (hl:xs.length<=1000000):zE fs e st=.ok (.tup xs) s1:=by rw [Pd,h,zJ,zF hl]
def jz (h:fs e st=.ok xs s1) (hl:xs.length<=1000000):jb fs e st=.ok (.ref s1.length) (s1++[.lst xs]):=by rw [Pe,h,zJ,zF hl]
def zW (h:f e st=.ok (.bl b) s1):mB f e st=.ok b s1:=by rw [O_,h,zJ,xS]
def iV (h:ta e st=.ok false s1):wI ta tb e st=.ok false s1:=by rw [Ei,h,zJ,zR (by simp)]
def g9 (h:ta e st=.ok true s1) (h':tb e s1=.ok b s2):wI ta tb e st=.ok b s2:=by rw [Ei,h,zJ,zF rfl,h']
def FE (h:ta e st=.ok true s1):jw ta tb e st=.ok true s1:=by rw [Ej,h,zJ,zF rfl]
def iW (h:ta e st=.ok false s1) (h':tb e s1=.ok b s2):jw ta tb e st=.ok b s2:=by rw [Ej,h,zJ,zR (by simp),h']
def lK (h:ta e st=.ok b s1):j9 ta e st=.ok (!b) s1:=by rw [Pa,h,zJ]
def qK {X:Res PV}(h:fa e st=.ok (.bl true) s1) (h':fb e s1=X):gQ fa fb e st=X:=by rw [Ek,h,zJ,xS,zJ,zF rfl,h']
def tQ {lo hi:Option Int}{fl fu:zj->Mo (Option Int)}{X:Res PV}(h:fa e st=.ok x s1) (hl:fl e s1=.ok lo s2) (hu:fu e s2=.ok hi s3) (h':mz x lo hi s3=X):wb fa fl fu e st=X:=by rw [Pf,h,zJ,hl,zJ,hu,zJ,h']
def qL {i:Int}(h:f e st=.ok (.int i) s1):bC f e st=.ok (some i) s1:=by rw [Pg,h,zJ,Ph]
def tR:bU e st=.ok none st:=(rfl)
def wz {op:Am}{n:Nat}{ys:An}{X:Res PV}(h:fa e st=.ok (.ref n) s1) (hl:s1[n]?=some (.lst ys)) (h':fb e s1=.ok y s2) (h2:op (.ref n) y s2=X):yN op fa fb e st=X:=by
 rw [PC,h,zJ,PD]
 simp only [yx,hl,zJ]
 rw [h',zJ,h2]
def tS (i j:Int):zT (.int i) (.int j) st=.ok (.int (i+j)) st:=(rfl)
def g_ (i j:Int):wa (.int i) (.int j) st=.ok (.int (i-j)) st:=(rfl)
def jk (i j:Int) (h:j≠0):zY (.int i) (.int j) st=.ok (.int (jc i j)) st:=by show (if _ then _ else _)=_;rw [zF (by simpa using h)]
def wA (i j:Int) (h:j≠0) (h2:j.natAbs<2 ^ 200):yG (.int i) (.int j) st=.ok (.int (jH i j)) st:=by
 show (if _ then _ else _)=_
 rw [zF]
 simp only [xw,w9,iE]
 exact ⟨h,h2⟩
def Az (i j:Int):wR (.int i) (.int j) st=.ok (.bl (decide (i<j))) st:=(rfl)
def Q2 (i j:Int):iQ (.int i) (.int j) st=.ok (.bl (decide (j<i))) st:=(rfl)
def AA (i j:Int):yi (.int i) (.int j) st=.ok (.bl (decide (i=j))) st:=by simp [Mi.plain,dep,bz];rfl
def FF (i j:Int):jL (.int i) (.int j) st=.ok (.bl (!decide (i=j))) st:=by simp [Mi.plain,dep,bz];rfl
def Q3 (i j:Str):yi (.str i) (.str j) st=.ok (.bl (decide (i=j))) st:=by simp [Mi.plain,dep,bz];rfl
def Q4 (i j:Int) (h:gR i j=true):jo (.int i) (.int j) st=.ok (.int (i*j)) st:=by rw [Qh,zF h]
def yf {m:Nat}{n:Nat}{r:ae}(hl:xs.length=m) (h:g (xs.map some++List.replicate (n-m) none) st=.ok (.rt v) r):ym m n g xs st=.ok v r:=by
 unfold ym
 rw [zF hl,h,zJ,Px]
end
end Mi
namespace Mi
open PySem L2 PySem.W PySem.Spec
def FG:Expr->Bool
 | .Starred _ _=>false
 | _=>true
def Q5 {e:Expr}{es:List Expr}{env:Env}(h:FG e=true):EA e es env:=by cases e<;>first|rfl|cases h
def zg {X:Cx}{Er:XK}{e:Expr}{es:List Expr}{fa:Ai}{fs:Ah}(ha:ME X Er e fa) (hr:MA X Er es fs) (hs:FG e=true:=by rfl):MA X Er (e::es) (zd fa fs):=DY ha hr (Q5 hs)
section
variable {X:Cx}{K:Frag}{mg:Ab}{Er:XK}{e o:Expr}{pos apos a6:Pos}{fo fa:Ai}{x:Str}{h:Heap}
end
end Mi
namespace PySem
section
variable {M:Model}{A:Around}{E:Aa}
variable {nm q WU q':Str}{C N B N':Addr}{bs bm WV WW:Af}{ke Q6:Bool}{sn WX:Ad}{sub Wb:Af}{ab WY:Bool}{col Wc:Option Bool}{dd iN:Option Addr}{k0 k1 k2 k3 k5 WZ W0 W2 W3 W4:Option Value}{newId JD:String}
end
end PySem
namespace L2
open PySem PySem.Spec PyProof.Rows PySem.W
structure Q7 (K:Frag) (C B:Addr):Prop where
 of:DN K C
 sub:mroIn K C (.ref B)=some true
end L2
namespace Mi
open PySem L2 PySem.W PySem.Spec
section
variable {X:Cx}{Er:XK}{pos:Pos}
end
end Mi
namespace L2
open PySem PySem.Spec PyProof.Rows PySem.W
end L2
namespace Mi
open PySem L2 PySem.W PySem.Spec
section
variable {X:Cx}{Er:XK}{pos:Pos}{o:Expr}{dX:List Stmt}{gb:Aj}{fo:Ai}{fs:Ah}
end
end Mi
namespace L2
open PySem PySem.Spec PyProof.Rows PySem.W PySem.Builtin PySem.Builtin.ObjectAttr
end L2
namespace Mi
open PySem L2 PySem.W PySem.Spec
section
variable {K:Frag}{mg:Ab}{h:Heap}{C:Addr}
end
section
variable {P:Program}{W:World}{A:Around}{s:Shared}
end
section
variable {X:Cx}{K:Frag}{mg:Ab}{ρ:Ae}{pins:Ac}{U:L2.St}{H:Hp}{s:Shared}{st:ae}
end
section
variable {X:Cx}{K:Frag}{mg:Ab}{Er:XK}{e o:Expr}{es:List Expr}{pos p apos:Pos}{fs:Ah}{fo fa:Ai}
def tT:Am
 | .ref n,.int i,st=>if i=0 then yx st n λxs=>match xs with
  | y::r=>.ok y (st.set n (.lst r))
  | []=>.stuck
  else .stuck
 | _,_,_=>.stuck
def zrT {a6:Pos} (ho:ME X Er o fo) (he:ME X Er e fa) (eZ:attributeBase o "pop" X.env (eval o X.env)=eval o X.env:=by rfl)
  (gJ:((backTo a6 (starEach [e] X.env)).all (λx=>!x.1)&&(backToKw a6 (keywordEach [] X.env)).all (λx=>x.1.isSome)&&decide ([e].length+([]:List Keyword).length+(if ([]:List Keyword).isEmpty then 0 else 1)<30))=true:=by rfl)
  (e9:(apos.endLine==a6.line)=true:=by rfl) (hs:starEach [e] X.env=(false,eval e X.env)::starEach [] X.env:=by rfl) (bX:(backTo a6 (starEach [] X.env)).any (·.1)=false:=by rfl):ME X Er (.Call (.Attribute o "pop" apos) [e] [] a6) (yN tT fo fa) :=
 PE.weak (vK PySem.F.plainAttrs_list PySem.F.slot_list_pop PySem.F.type_list_pop MB ho (si he sh hs) eZ gJ e9 hs bX) λU H Q ⟨env,st,ρ,re,rs,h⟩=>⟨env,st,ρ,re,rs,h.then λaf H1 x ao e1 s1 h1 v rv=>by
  obtain ⟨n,xs,rfl,hn,h1⟩:=xP h1
  obtain ⟨p,vs,rfl,hp,k1,k2⟩:=R.refL s1 rv hn
  refine ⟨.inl ⟨rfl,vs,aZ.of k1⟩,env,ao,af,re.ext e1,s1,h1.then λam H2 y ax e2 s2 h2 w rw=>?_⟩
  cases y with
  | int i =>
   cases rw
   obtain ⟨hi,h2⟩:=Out.ifp h2
   subst hi
   obtain ⟨xs2,fA,h2⟩:=jK h2
   obtain ⟨p',fS,e3,ky,k3,k4⟩:=R.refL s2 (R.ext e2 _ rv) fA
   cases e3
   cases xs2 with
   | nil=>exact h2.elim
   | cons y r =>
    obtain ⟨u,us,rfl,ru,AB⟩:=k4
    have ew:Ext am H2 am (upd H2 p (.lst us)):=Ext.write k3 rfl
    exact ⟨p,u::us,0,0,u,rfl,rfl,k3,by decide,by decide,by simp [seqIndex?],rfl,h2 am _ ew (s2.write ky ew ⟨us,jh,Rs.ext ew _ AB⟩) _ (R.ext ew y ru)⟩
  | _=>exact h2.elim⟩
end
end Mi
namespace Mi
open PySem L2 PySem.W PySem.Spec PyProof.Rows
section
variable {prog:Program}{w:World}{A:Around}{E:Aa}{s:Shared}
end
section
variable {X:Cx}{Er:XK}
end
section
variable {prog:Program}{w:World}{A:Around}{E:Aa}{s:Shared}
end
section
variable {prog:Program}{w:World}{A:Around}{E:Aa}{s:Shared}
end
section
variable {X:Cx}{Er:XK}{o:Expr}{fo:Ai}{p pos kp cp:Pos}{j:Nat}
end
section
variable {X:Cx}{Er:XK}
end
end Mi
namespace Mi
open PySem L2 PySem.W PySem.Spec
end Mi
namespace HT
open PySem PySem.Spec PyProof.Rows
section
variable {prog:Program}{w:World}{A:Around}{E:Aa}{s:Shared}
end
end HT
namespace Mi
open PySem L2 PySem.W PySem.Spec PyProof.Rows
section
variable {X:Cx}{K:Frag}{mg:Ab}{Er:XK}{e k:Expr}{p2 pos:Pos}{fa:Ai}{fk:zj->Mo (Option Int)}
end
section
variable {X:Cx}{K:Frag}{mg:Ab}{Er:XK}
end
end Mi
namespace Mi
open PySem L2 PySem.W PySem.Spec
section
variable {X:Cx}{Er:XK}{pos:Pos}
end
end Mi
namespace L2
open PySem PySem.Spec PyProof.Rows PySem.W
theorem Q8 (l:Addr) (its:Array Value) (n:Nat) (b:Addr) (o:Obj) (us:Array Value) (k:Nat) (gK:¬(!its.isEmpty&&Builtin.List.listTooLong (its.size+us.size))=true) (hz:its.size+us.size<=sizeLine) :
  Meets (Builtin.«list.extend» ⟨[.ref l,.ref b],[]⟩) λ_ R s=>s.heap.get? l=some { cls:=.type "list", data:=.seq its n }/\(s.heap.get? b=some o/\o.cls=.type "tuple" /\ o.data=.seq us k)/\R (.ok (.ret .none)) { s with heap:=s.heap.update l (Obj.mapSeq (·++us)) }:=by
 intro prog w A R s ⟨hS,⟨ho,hc,hd⟩,hR⟩
 show wpAny _ A.in1 (Builtin.List.listExtendWith (.ref l) (.ref b) .none) _ _ s
 unfold Builtin.List.listExtendWith
 refine zA (wpAny_typeOf ⟨o,ho,hc⟩ ?_)
 have h1:(Builtin.List.listSameRef (.ref l) (.ref b)||Value.type "tuple" == Value.type "list" || Value.type "tuple" == Value.type "tuple")=true:=by simp
 simp only [h1,iB]
 unfold Builtin.List.listItems
 refine zA (zA (wpAny_seqItems ho hd (yg (zA (zA (wpAny_seqItems hS rfl (yg ?_)))))))
 rw [zR gK]
 show wpAny _ A.in1 (updateSeq l (·++us) >>= λ_=>ret .none) _ _ s
 exact zA (wpAny_updateSeq hS rfl (yg hR) (by show its.size<=sizeLine;omega))
def Q9 (K:Frag):V->List V->Hp->VK->Prop:=λx vs H Q=>∃l b xs zs,x=.ref l/\vs=[.ref b]/\H l=some (.lst xs)/\a5 K H b zs/\xs.length+zs.length<=sizeLine/\Q .non (upd H l (.lst (xs++zs)))
def zrW {X:Cx}:su X "list.extend" λx vs H Q=>Dc x vs H Q\/Q9 X.K x vs H Q:=by
 intro pins s U H x vs v us Q I rx rv h
 rcases h with h|h
 ·exact My pins s U H x vs v us Q I rx rv h
 ·obtain ⟨l,b,xs,zs,rfl,rfl,hH,hB,hz,q⟩:=h
  cases rx
  obtain ⟨u,rfl,ru⟩:=rv.one
  cases ru
  obtain ⟨z,its,n,r,hl,e⟩:=I.lstM hH
  obtain ⟨aM,r2,⟨o,ho,hc,k,hd⟩,_⟩:=I.tuple hB
  have hl2:=r2.length
  have hsz:its.toArray.size+aM.toArray.size<=sizeLine:=by rw [yV,yV];omega
  have gK:¬(!its.toArray.isEmpty&&Builtin.List.listTooLong (its.toArray.size+aM.toArray.size))=true:=by
   rw [j_ hsz,Bool.and_false]
   exact Bool.false_ne_true
  refine call_meets F.slot_list_extend ⟨_,e,rfl⟩ F.entry_list_extend (F.args_list_extend_2 _ _) (Q8 l its.toArray n b o aM.toArray k gK hsz) ⟨e,⟨ho,hc,hd⟩,?_⟩
  refine ⟨.non,_,I.lset (its':=its++aM) hH e (by simp) (r.append r2) ?_,rfl,q⟩
  rw [iA]
  omega
end L2
namespace Mi
open PySem L2 PySem.W PySem.Spec
section
variable {X:Cx}{Er:XK}{e o:Expr}{apos:Pos}{fo fa:Ai}
def tU:Am
 | .ref n,.tup ys,st=>yx st n λxs=>if xs.length+ys.length<=lim then .ok .non (st.set n (.lst (xs++ys))) else .stuck
 | x,y,st=>OZ x y st
def zrX {a6:Pos} (ho:ME X Er o fo) (he:ME X Er e fa) (eZ:attributeBase o "extend" X.env (eval o X.env)=eval o X.env:=by rfl)
  (gJ:((backTo a6 (starEach [e] X.env)).all (λx=>!x.1)&&(backToKw a6 (keywordEach [] X.env)).all (λx=>x.1.isSome)&&decide ([e].length+([]:List Keyword).length+(if ([]:List Keyword).isEmpty then 0 else 1)<30))=true:=by rfl)
  (e9:(apos.endLine==a6.line)=true:=by rfl) (hs:starEach [e] X.env=(false,eval e X.env)::starEach [] X.env:=by rfl) (bX:(backTo a6 (starEach [] X.env)).any (·.1)=false:=by rfl):ME X Er (.Call (.Attribute o "extend" apos) [e] [] a6) (yN tU fo fa) :=
 PE.weak (vK PySem.F.plainAttrs_list PySem.F.slot_list_extend PySem.F.type_list_extend zrW ho (si he sh hs) eZ gJ e9 hs bX) λU H Q ⟨env,st,ρ,re,rs,h⟩=>⟨env,st,ρ,re,rs,h.then λaf H1 x ao e1 s1 h1 v rv=>by
  obtain ⟨n,xs,rfl,hn,h1⟩:=xP h1
  obtain ⟨p,vs,rfl,hp,k1,k2⟩:=R.refL s1 rv hn
  refine ⟨.inl ⟨rfl,vs,aZ.of k1⟩,env,ao,af,re.ext e1,s1,h1.then λam H2 y ax e2 s2 h2 w rw=>?_⟩
  cases y with
  | ref m =>
   obtain ⟨xs2,fA,h2⟩:=jK h2
   obtain ⟨W5,Q_,h2⟩:=jK h2
   obtain ⟨c,h2⟩:=Out.ifp h2
   obtain ⟨p',fS,e3,ky,k3,k4⟩:=R.refL s2 (R.ext e2 _ rv) fA
   cases e3
   obtain ⟨q,mQ,rfl,gk,k5,k6⟩:=R.refL s2 rw Q_
   have ew:Ext am H2 am (upd H2 p (.lst (fS++mQ))):=Ext.write k3 rfl
   exact .inl ⟨p,q,fS,mQ,rfl,rfl,k3,k5,by rw [<-k4.len,<-k6.len];exact jn c,h2 am _ ew (s2.write ky ew ⟨fS++mQ,jh,Rs.ext ew _ (k4.append k6)⟩) _ rfl⟩
  | tup ys =>
   obtain ⟨xs2,fA,h2⟩:=jK h2
   obtain ⟨c,h2⟩:=Out.ifp h2
   obtain ⟨p',fS,e3,ky,k3,k4⟩:=R.refL s2 (R.ext e2 _ rv) fA
   cases e3
   obtain ⟨q,mQ,rfl,k5,k6⟩:=rw
   have ew:Ext am H2 am (upd H2 p (.lst (fS++mQ))):=Ext.write k3 rfl
   exact .inr ⟨p,q,fS,mQ,rfl,rfl,k3,k5,by rw [<-k4.len,<-k6.len];exact jn c,h2 am _ ew (s2.write ky ew ⟨fS++mQ,jh,Rs.ext ew _ (k4.append k6)⟩) _ rfl⟩
  | _=>exact h2.elim⟩
end
end Mi
namespace L2
open PySem PySem.Spec PyProof.Rows PySem.W Mi
section
variable {X:Cx}{pins:Ac}{U:St}{H H':Hp}{s:Shared}{a b:Addr}{its:List (List Key×Addr×Value)}{k:List Key}{A:Around}{E:Aa}{r:Value}
abbrev hU (K:Frag) (H:Hp) (its:List (List Key×Addr×Value)):Prop:=∀x,x∈its->a5 K H x.2.1 (x.1.map kV)
def qM (I:Inv X pins U H s) (h:a5 X.K H b (k.map kV)):(tupleKind (aY X.prog X.w)).is s.heap k b:=by
 obtain ⟨us,r,⟨o,h1,h2,n,h3⟩,_⟩:=I.tuple h
 exact ⟨o,us.toArray,n,h1,h2,h3,by simpa using w_ r⟩
def qN (I:Inv X pins U H s) (e:H a=some (dE a its)) (ks:hU X.K H its):its.length<=sizeLine/\(a==sysModules)=false/\s.heap.DictOfH (tupleKind (aY X.prog X.w)) a its:=by
 obtain ⟨⟨z,y,o,es,ep,h1,h2,h3,h4,h5⟩,_⟩:=(show aQ X.prog X.w H s.heap a (dE a its) from I.hok a _ e)
 exact ⟨z,y,o,es,ep,h1,h2,h3,h4,λx hx=>qM I (ks x hx),h5⟩
def Ra {p:Addr×Value}{Q:Aa}(hu:A.units+1<cLine) (I:Inv X pins U H s) (e:H a=some (dE a its)) (ks:hU X.K H its) (kb:a5 X.K H b (k.map kV)) (hp:atKey its k=some p)
  (h:∀s',Inv X pins U H s'->Q p.2 s'):wpAny (model X.prog X.w) A (getItem (.ref a) (.ref b)) Q E s:=by
 obtain ⟨z,hd,dd⟩:=qN I e ks
 exact wpAny_getItem_heap (tupleKind_room_in1 hu) (qM I kb) dd hp (h _ (I.tok _))
def Rb {Q:Aa}(hu:A.units+1<cLine) (I:Inv X pins U H s) (e:H a=some (dE a its)) (ks:hU X.K H its) (kb:a5 X.K H b (k.map kV))
  (h:∀s',Inv X pins U H s'->Q (.bool (atKey its k).isSome) s'):wpAny (model X.prog X.w) A (compareOp .In (.ref b) (.ref a)) Q E s:=by
 obtain ⟨z,hd,dd⟩:=qN I e ks
 exact wpAny_in_heap (tupleKind_room_in1 hu) (qM I kb) hd dd (h _ (I.tok _))
def Rc {Q:Aa}(hu:A.units+1<cLine) (I:Inv X pins U H s) (e:H a=some (dE a its)) (ks:hU X.K H its) (kb:a5 X.K H b (k.map kV))
  (h:∀s',Inv X pins U H s'->Q (.bool (!(atKey its k).isSome)) s'):wpAny (model X.prog X.w) A (compareOp .NotIn (.ref b) (.ref a)) Q E s:=by
 obtain ⟨z,hd,dd⟩:=qN I e ks
 exact wpAny_notIn_heap (tupleKind_room_in1 hu) (qM I kb) hd dd (h _ (I.tok _))
theorem Rf (its:List (List Key×Addr×Value)) (k:List Key) (b:Addr) (r:Value):(storedH its k b r).length<=its.length+1:=by
 unfold storedH
 split
 ·rw [yM];omega
 ·simp
def FH {P:Program}{w:World}{H:Hp}{h:Heap}{q:Obj}{es:Array DictEntry}{ep:Nat}(z:its.length<=sizeLine) (hd:(a==sysModules)=false) (hq:h.get? a=some q) (h2:q.ExactDict) (h3:q.data=.dict es ep)
  (h4:es.toList=its.map (entryOfKey (tupleKind (aY P w)))) (h5:(its.map (·.1)).Nodup):aQ P w H h a (dE a its) :=
 ⟨⟨z,hd,q,es,ep,hq,h2,h3,h4,h5⟩,⟨q,hq⟩,λh1 h2 ⟨z,y,o,es,ep,e,r⟩ k=>⟨z,y,o,es,ep,k _ e,r⟩⟩
theorem Rg {Q:Unit->Shared->Prop}(hu:A.units+1<cLine) (I:Inv X pins U H s) (e:H a=some (dE a its)) (ks:hU X.K H its) (kb:a5 X.K H b (k.map kV)) (l:its.length<sizeLine)
  (h:∀s',Inv X pins U (upd H a (dE a (storedH its k b r))) s'->Q () s'):wpAny (model X.prog X.w) A (setItem (.ref a) (.ref b) r) Q E s:=by
 obtain ⟨z,hd,dd⟩:=qN I e ks
 refine wpAny_setItem_heap (hsz:=z) (tupleKind_room_in1 hu) (qM I kb) dd λh' iN hs=>h _ ?_
 obtain ⟨q,es,ep,hq,h2,h3,h4,_,h5⟩:=iN
 exact sD I (by rw [e];exact True.intro) hs ⟨q,hq⟩ (FH (by have:=Rf its k b r;omega) hd hq h2 h3 h4 h5)
def Inv.turnE (I:Inv X pins U H s) (ha:H a=some (.dK [])):Inv X pins U (upd H a (dE a [])) s:=by
 obtain ⟨z,hd,vs,rel,o,es,ep,h1,h2,h3,h4,h6,h5⟩:=xb I.hok ha
 cases rel
 have hz:es.toList=[]:=by
  have:=h6.length
  exact List.length_eq_zero_iff.mp this
 exact I.un (h':=s.heap) (t':=s.toks) (Un.write (e:=a) (by rw [ha];trivial) (.inl rfl) (λb u _ q=>q) ⟨o,h1⟩) (cj.write (e:=a) I.hok (by rw [ha];trivial) (.inl rfl) (λb u _ q=>q) ⟨o,h1⟩ (FH (js _) hd h1 h2 h3 hz List.nodup_nil))
def fW (H:Hp) (a:Addr) (H':Hp) (its:List (List Key×Addr×Value)):Prop:=(H'=H/\H a=some (dE a its))\/(H a=some (.dK [])/\its=[]/\H'=upd H a (dE a []))
def fW.inv (t:fW H a H' its) (I:Inv X pins U H s):Inv X pins U H' s/\H' a=some (dE a its):=by
 rcases t with ⟨rfl,e⟩|⟨e,rfl,rfl⟩
 ·exact ⟨I,e⟩
 ·exact ⟨I.turnE e,jh⟩
def AD (K:Frag) (neg:Bool):R2:=λx y H Q=>∃a b k its H',x=.ref b/\y=.ref a/\fW H a H' its/\hU K H' its/\a5 K H' b (k.map kV)/\Q (.bl (neg.xor (atKey its k).isSome)) H'
def Rh (hu:X.A.units+200<cLine):bf X (compareOp .In) (AD X.K false):=by
 intro pins s U H x y v u Q I rx ry ⟨a,b,k,its,H',ex,ey,t,ks,kb,q⟩
 subst ex ey
 obtain rfl:v=Value.ref b:=rx
 obtain rfl:u=Value.ref a:=ry
 obtain ⟨I',e⟩:=t.inv I
 exact Rb (by omega) I' e ks kb λs' I2=>⟨.bl (atKey its k).isSome,H',I2,rfl,by simpa using q⟩
def Ri (hu:X.A.units+200<cLine):bf X (compareOp .NotIn) (AD X.K true):=by
 intro pins s U H x y v u Q I rx ry ⟨a,b,k,its,H',ex,ey,t,ks,kb,q⟩
 subst ex ey
 obtain rfl:v=Value.ref b:=rx
 obtain rfl:u=Value.ref a:=ry
 obtain ⟨I',e⟩:=t.inv I
 exact Rc (by omega) I' e ks kb λs' I2=>⟨.bl (!(atKey its k).isSome),H',I2,rfl,by simpa using q⟩
def Rj (K:Frag):R2:=λx y H Q=>∃a b k its H' p v,x=.ref a/\y=.ref b/\fW H a H' its/\hU K H' its/\a5 K H' b (k.map kV)/\atKey its k=some p/\RelV v p.2/\Q v H'
def Rk (hu:X.A.units+1<cLine):fQ X (Rj X.K):=by
 intro value slice pins s U H x y v u Q I rx ry ⟨a,b,k,its,H',p,w,ex,ey,t,ks,kb,hp,rp,q⟩ hs
 subst ex ey
 obtain rfl:v=Value.ref a:=rx
 obtain rfl:u=Value.ref b:=ry
 obtain ⟨I',e⟩:=t.inv I
 obtain ⟨_,_,dd⟩:=qN I' e ks
 exact PyProof.Rows.tail_any dd.typeIs PySem.F.slot_dict_getitem.lookup (Ra hu I' e ks kb hp λs' I2=>⟨w,H',I2,rp,q⟩) hs
def Rl (K:Frag) (td ty tv:TE):TS:=λD U H=>tv U H λv H1=>td U H1 λx H2=>ty U H2 λy H3=>(∃a H4,x=.ref a/\eQ H3 a y v H4/\D.nx U H4) \/
 ∃a b k its H4,x=.ref a/\y=.ref b/\fW H3 a H4 its/\hU K H4 its/\a5 K H4 b (k.map kV)/\its.length<sizeLine/\∀u,RelV v u->D.nx U (upd H4 a (dE a (storedH its k b u)))
def Rm {o i value:Expr}{pos pos':Pos}{td ty tv:TE}(hu:X.A.units+1<cLine) (ho:PE X o td) (hi:PE X i ty) (hv:PE X value tv) (hs:swapsWith value (some (.Subscript o i pos')) pos.line X.env=pure false) :
  PS X (.Assign [.Subscript o i pos'] value pos) (Rl X.K td ty tv):=by
 intro pins s U H D I h
 refine wpAny_Assign_Subscript (aO (hv pins s U H _ I h) λr s1 ⟨v,H1,I1,rv,q1⟩=>aO (ho pins s1 U H1 _ I1 q1) λu s2 ⟨x,H2,I2,rx,q2⟩=>aO (hi pins s2 U H2 _ I2 q2) λiv s3 ⟨y,H3,I3,ry,q3⟩=>?_) hs
 rcases q3 with ⟨a,H4,ex,g,q3⟩|⟨a,b,k,its,H4,ex,ey,t,ks,kb,l,q3⟩
 ·subst ex
  obtain rfl:u=Value.ref a:=rx
  exact DC hu I3 g ry rv λs4 I4=>⟨U,H4,I4,q3⟩
 ·subst ex ey
  obtain rfl:u=Value.ref a:=rx
  obtain rfl:iv=Value.ref b:=ry
  obtain ⟨I',e⟩:=t.inv I3
  exact Rg hu I' e ks kb l λs4 I4=>⟨U,_,I4,q3 r rv⟩
end
end L2
namespace Mi
open PySem L2 PySem.W PySem.Spec
section
variable {X:Cx}{Er:XK}{K:Frag}{mg:Ab}{ρ:Ae}{H:Hp}{st:ae}{pos pos':Pos}{o:Expr}
def FI:PV->Option Key
 | .int i=>some (.inl i)
 | .str z=>some (.inr z)
 | _=>none
def dw:List PV->Option (List Key)
 | []=>some []
 | x::r=>match FI x,dw r with
  | some k,some l=>some (k::l)
  | _,_=>none
theorem tV:∀{xs:An}{vs:List V}{k:List Key},Rs K mg ρ H xs vs->dw xs=some k->vs=k.map kV
 | [],vs,k,r,h=>by cases h;cases r;rfl
 | x::xs,vs,k,r,h=>by
  obtain ⟨v,ws,rfl,h1,h2⟩:=r
  unfold dw at h
  split at h
  ·rename_i k0 l hk hl
   cases h
   rw [tV h2 hl,yo]
   congr 1
   cases x with
   | int i=>cases hk;exact h1
   | str z=>cases hk;exact h1
   | _=>cases hk
  ·cases h
def dy:Option SO->Option (List (List Key)×List PV)
 | some (.dit ks xs)=>some (ks,xs)
 | some (.dic [] [])=>some ([],[])
 | _=>none
def AE {n:Nat}{a:Addr}{ks:Ag}{xs:An}(s:aX K mg ρ H st) (ha:ρ[n]?=some a) (h:dy st[n]?=some (ks,xs)) :
  ∃H' its vs,fW H a H' its/\Ext ρ H ρ H'/\aX K mg ρ H' (st.set n (.dit ks xs))/\its.map (·.1)=ks/\hU K H' its/\Vals vs (its.map (·.2.2))/\Rs K mg ρ H' xs vs:=by
 unfold dy at h
 split at h
 ·rename_i bT dz e
  cases h
  obtain ⟨its,vs,h1,h2,h3,h4,h5⟩:=s.addr e ha
  refine ⟨H,its,vs,.inl ⟨rfl,h1⟩,Ext.refl,?_,h2,h3,h4,h5⟩
  have:st.set n (.dit ks xs)=st:=by
   obtain ⟨hl,he⟩:=yl.mp e
   rw [<-he,List.set_getElem_self]
  rw [this];exact s
 ·rename_i e
  cases h
  obtain ⟨vs,h1,h2,h3⟩:=s.addr e ha
  cases h2
  have ew:Ext ρ H ρ (upd H a (dE a [])):=Ext.write h1 rfl
  exact ⟨_,[],[],.inr ⟨h1,rfl,rfl⟩,ew,s.write ha ew ⟨[],[],jh,rfl,(λx hx=>nomatch hx),.nil,rfl⟩,rfl,(λx hx=>nomatch hx),.nil,rfl⟩
 ·cases h
def bj (k:List Key) (ks:Ag):Bool:=ks.any λz=>decide (z=k)
def tX {k:List Key}{ks:Ag}:bj k ks=true↔k∈ks:=by
 unfold bj
 rw [List.any_eq_true]
 exact ⟨λ⟨x,h,e⟩=>(of_decide_eq_true e)▸h,λh=>⟨k,h,jJ rfl⟩⟩
theorem AF {k:List Key}:∀{its:List (List Key×Addr×Value)},(atKey its k).isSome=bj k (its.map (·.1))
 | []=>rfl
 | x::r=>by
  have ih:=AF (k:=k) (its:=r)
  unfold atKey at ih ⊢
  rw [List.find?_cons,yo,show bj k (x.1::r.map (·.1))=(decide (x.1=k)||bj k (r.map (·.1))) from rfl]
  by_cases h:x.1=k
  ·rw [jJ h];rfl
  ·rw [jC h];exact ih
def oM {α:Type}(k:List Key):List (List Key)->List α->Option α
 | z::zs,x::xs=>if z=k then some x else oM k zs xs
 | _,_=>none
theorem FJ {k:List Key}{q:PV}:∀{its:List (List Key×Addr×Value)}{vs:List V}{xs:An},Vals vs (its.map (·.2.2))->Rs K mg ρ H xs vs->oM k (its.map (·.1)) xs=some q->∃p v,atKey its k=some p/\RelV v p.2/\R K mg ρ H q v
 | [],_,xs,_,_,h=>by cases xs<;>cases h
 | x::r,_,[],hv,hr,h=>by cases h
 | x::r,vs,y::ys,hv,hr,h=>by
  obtain ⟨v,ws,rfl,h1,h2⟩:=hr
  rw [yo] at hv
  cases hv with
  | cons g t =>
   rw [yo] at h
   unfold oM at h
   unfold atKey
   rw [List.find?_cons]
   by_cases e:x.1=k
   ·rw [zF e] at h
    cases h
    rw [jJ e]
    exact ⟨x.2,v,rfl,g,h1⟩
   ·rw [zR e] at h
    obtain ⟨p,v',a1,a2,a3⟩:=FJ t h2 h
    rw [jC e]
    exact ⟨p,v',a1,a2,a3⟩
def cz (old:Am) (neg:Bool) (x y:PV):Mo PV:=λst=>match x,y with
 | .tup zs,.ref n=>match dw zs,dy st[n]? with
  | some k,some (ks,xs)=>.ok (.bl (neg.xor (bj k ks))) (st.set n (.dit ks xs))
  | _,_=>old x y st
 | _,_=>old x y st
def Rn {old:Am}{neg:Bool}{x y:PV}:cz old neg x y st=old x y st\/∃zs n k ks xs,x=.tup zs/\y=.ref n/\dw zs=some k/\dy st[n]?=some (ks,xs)/\cz old neg x y st=.ok (.bl (neg.xor (bj k ks))) (st.set n (.dit ks xs)):=by
 unfold cz
 split
 ·rename_i zs n
  cases h1:dw zs with
  | none=>exact .inl rfl
  | some k =>
   cases h2:dy st[n]? with
   | none=>exact .inl rfl
   | some p=>exact .inr ⟨zs,n,k,p.1,p.2,rfl,rfl,h1,h2,rfl⟩
 ·exact .inl rfl
def FK {r:R2}{old:Am}{neg:Bool}(m:fI K mg r old):fI K mg (λx y H Q=>r x y H Q\/AD K neg x y H Q) (cz old neg):=by
 intro ρ H st x y v w Q E s rx ry h
 rcases Rn (old:=old) (neg:=neg) (x:=x) (y:=y) (st:=st) with e|⟨zs,n,k,ks,xs,rfl,rfl,h1,h2,e⟩
 ·rw [e] at h;exact .inl (m ρ H st x y v w Q E s rx ry h)
 ·rw [e] at h
  obtain ⟨b,us,rfl,hb,ru⟩:=rx
  obtain ⟨a,rfl,ha⟩:=ry
  obtain ⟨H',its,vs,t,ex,s',hk,hq,hv,hr⟩:=AE s ha h2
  have:=tV ru h1
  subst this
  refine .inr ⟨a,b,k,its,H',rfl,rfl,t,hq,ex.sqT hb,?_⟩
  rw [AF,hk]
  exact h ρ H' ex s' _ rfl
def bf.or' {f:Value->Value->Sem Value}{r r':R2}(a:bf X f r) (b:bf X f r'):bf X f (λx y H Q=>r x y H Q\/r' x y H Q):=by
 intro pins s U H x y v u Q I rx ry h
 rcases h with h|h
 ·exact a pins s U H x y v u Q I rx ry h
 ·exact b pins s U H x y v u Q I rx ry h
def Ro {old:Am}(hu:X.A.units+200<cLine) (c:b3 X .In old):b3 X .In (cz old false):=by
 obtain ⟨r,h1,h2⟩:=c
 exact ⟨_,bf.or' h1 (Rh hu),FK h2⟩
def Rp {old:Am}(hu:X.A.units+200<cLine) (c:b3 X .NotIn old):b3 X .NotIn (cz old true):=by
 obtain ⟨r,h1,h2⟩:=c
 exact ⟨_,bf.or' h1 (Ri hu),FK h2⟩
def aR (old:Am) (x y:PV):Mo PV:=λst=>match x,y with
 | .ref n,.tup zs=>match dw zs,dy st[n]? with
  | some k,some (ks,xs)=>b_ (oM k ks xs) (st.set n (.dit ks xs))
  | _,_=>old x y st
 | _,_=>old x y st
def Rq {old:Am}{x y:PV}:aR old x y st=old x y st\/∃zs n k ks xs,y=.tup zs/\x=.ref n/\dw zs=some k/\dy st[n]?=some (ks,xs)/\aR old x y st=b_ (oM k ks xs) (st.set n (.dit ks xs)):=by
 unfold aR
 split
 ·rename_i n zs
  cases h1:dw zs with
  | none=>exact .inl rfl
  | some k =>
   cases h2:dy st[n]? with
   | none=>exact .inl rfl
   | some p=>exact .inr ⟨zs,n,k,p.1,p.2,rfl,rfl,h1,h2,rfl⟩
 ·exact .inl rfl
def wY {old:Am}(hu:X.A.units+200<cLine) (c:lA X old):lA X (aR old):=by
 obtain ⟨r,h1,h2⟩:=c
 refine ⟨_,h1.or (Rk (by omega)),fun ρ H st x y v w Q E s rx ry h=>?_⟩
 rcases Rq (old:=old) (x:=x) (y:=y) (st:=st) with e|⟨zs,n,k,ks,xs,rfl,rfl,k1,k2,e⟩
 ·rw [e] at h;exact .inl (h2 ρ H st x y v w Q E s rx ry h)
 ·rw [e] at h
  obtain ⟨a,rfl,ha⟩:=rx
  obtain ⟨b,us,rfl,hb,ru⟩:=ry
  obtain ⟨H',its,vs,t,ex,s',hk,hq,hv,hr⟩:=AE s ha k2
  have:=tV ru k1
  subst this
  cases hl:oM k ks xs with
  | none=>rw [hl] at h;exact h.elim
  | some q =>
   rw [hl] at h
   rw [<-hk] at hl
   obtain ⟨p,v,a1,a2,a3⟩:=FJ hv hr hl
   exact .inr ⟨a,b,k,its,H',p,v,rfl,rfl,t,hq,ex.sqT hb,a1,a2,h ρ H' ex s' _ a3⟩
end
section
variable {X:Cx}{Er:XK}{K:Frag}{mg:Ab}{ρ:Ae}{H:Hp}{st:ae}{pos pos':Pos}{o:Expr}
def hV {α:Type}(z:List Key) (x:α):List (List Key)->List α->List α
 | k::ks,y::ys=>(if k=z then x else y)::hV z x ks ys
 | _,ys=>ys
def h_ (z:List Key) (x:PV) (ks:Ag) (xs:An):List (List Key)×List PV:=if bj z ks=true then (ks,hV z x ks xs) else (ks++[z],xs++[x])
def AH {k:List Key}{u:Value}(x:List Key×Addr×Value):(PySem.putAt k u x).1=x.1/\(PySem.putAt k u x).2.1=x.2.1:=by
 unfold PySem.putAt
 split<;>exact ⟨rfl,rfl⟩
theorem FL {k:List Key}{u:Value}{x:PV}{v:V}(rx:R K mg ρ H x v) (ru:RelV v u):∀{its:List (List Key×Addr×Value)}{vs:List V}{xs:An},Vals vs (its.map (·.2.2))->Rs K mg ρ H xs vs ->
  ∃ws,Vals ws ((its.map (PySem.putAt k u)).map (·.2.2))/\Rs K mg ρ H (hV k x (its.map (·.1)) xs) ws
 | [],vs,xs,hv,hr=>by
  rw [List.map_nil] at hv
  cases hv
  cases xs with
  | nil=>exact ⟨[],.nil,rfl⟩
  | cons y ys=>obtain ⟨_,_,z,_⟩:=hr;cases z
 | p::r,vs,[],hv,hr=>by
  cases hr
  rw [yo] at hv
  cases hv
 | p::r,vs,y::ys,hv,hr=>by
  obtain ⟨w,ws,rfl,h1,h2⟩:=hr
  rw [yo] at hv
  cases hv with
  | cons g t =>
   obtain ⟨zs,a1,a2⟩:=FL rx ru t h2
   by_cases e:p.1=k
   ·refine ⟨v::zs,?_,v,zs,rfl,?_,a2⟩
    ·rw [yo,yo]
     refine .cons ?_ a1
     unfold PySem.putAt;rw [zF e];exact ru
    ·rw [zF e];exact rx
   ·refine ⟨w::zs,?_,w,zs,rfl,?_,a2⟩
    ·rw [yo,yo]
     refine .cons ?_ a1
     unfold PySem.putAt;rw [zR e];exact g
    ·rw [zR e];exact h1
def Rr {k:List Key}{u:Value}{x:PV}{v:V}{b:Addr}{its:List (List Key×Addr×Value)}{vs:List V}{xs:An}(rx:R K mg ρ H x v) (ru:RelV v u) (hq:hU K H its) (hb:a5 K H b (k.map kV)) (hv:Vals vs (its.map (·.2.2))) (hr:Rs K mg ρ H xs vs) :
  ∃ws,(storedH its k b u).map (·.1)=(h_ k x (its.map (·.1)) xs).1/\hU K H (storedH its k b u)/\Vals ws ((storedH its k b u).map (·.2.2))/\Rs K mg ρ H (h_ k x (its.map (·.1)) xs).2 ws:=by
 unfold storedH h_
 rw [AF]
 by_cases hc:bj k (its.map (·.1))=true
 ·rw [zF hc,zF hc]
  obtain ⟨ws,a1,a2⟩:=FL (k:=k) rx ru hv hr
  refine ⟨ws,?_,λy hy=>?_,a1,a2⟩
  ·rw [List.map_map]
   exact List.map_congr_left λy _=>(AH y).1
  ·obtain ⟨z,hz,rfl⟩:=jd.mp hy
   rw [(AH z).1,(AH z).2]
   exact hq z hz
 ·rw [zR hc,zR hc]
  refine ⟨vs++[v],by simp,λy hy=>?_,?_,hr.append ⟨v,[],rfl,rx,rfl⟩⟩
  ·rcases jG.mp hy with h|h
   ·exact hq y h
   ·obtain rfl:=jP.mp h;exact hb
  ·rw [jA]
   exact hv.append (.cons ru .nil)
def mR (z x o:PV):Mo Unit:=λst=>match z,o with
 | .tup zs,.ref n=>match dw zs,dy st[n]? with
  | some k,some (ks,xs)=>if ks.length<lim then .ok () (st.set n (.dit (h_ k x ks xs).1 (h_ k x ks xs).2)) else .stuck
  | _,_=>.stuck
 | _,_=>wS z x o st
def Rt {z x o:PV}:mR z x o st=wS z x o st\/mR z x o st=.stuck\/∃zs n k ks xs,z=.tup zs/\o=.ref n/\dw zs=some k/\dy st[n]?=some (ks,xs)/\ks.length<lim/\mR z x o st=.ok () (st.set n (.dit (h_ k x ks xs).1 (h_ k x ks xs).2)):=by
 unfold mR
 split
 ·rename_i zs n
  cases h1:dw zs with
  | none=>exact .inr (.inl rfl)
  | some k =>
   cases h2:dy st[n]? with
   | none=>exact .inr (.inl rfl)
   | some p =>
    by_cases hc:p.1.length<lim
    ·exact .inr (.inr ⟨zs,n,k,p.1,p.2,rfl,rfl,h1,h2,hc,zF hc⟩)
    ·exact .inr (.inl (zR hc))
 ·exact .inl rfl
def mS (fo fi fv:Ai):Aj:=λenv st=>(fv env st).bind λx ao=>(fo env ao).bind λo ax=>(fi env ax).bind λz aS=>(mR z x o aS).bind λ_ fg=>.ok (.nx env) fg
theorem Ru {env:zj}{U:L2.St}{D:Ends}{zz x y:PV}{u v w:V}(s3:aX K mg ρ H st) (re:a_ K mg ρ H env U) (rv:R K mg ρ H x v) (dG:R K mg ρ H y w) (ru:R K mg ρ H zz u)
  (h3:Out K mg ρ H ((wS zz x y st).bind λ_ fg=>.ok (.nx env) fg) (gS K mg D) Er):∃a H4,w=.ref a/\eQ H a u v H4/\D.nx U H4:=by
 cases y with
 | ref n =>
  cases zz with
  | str z =>
   cases hn:st[n]? with
   | none=>simp only [wS,jY,hn] at h3;exact h3.elim
   | some so =>
    cases so with
    | dic ks xs =>
     simp only [wS,jY,hn] at h3
     by_cases hc:ks.length<lim
     ·rw [zF hc] at h3
      obtain ⟨a,vs,e4,ha,k1,k2,k3⟩:=R.refD s3 dG hn
      subst e4
      cases ru
      obtain ⟨ws,q1,q2,q3⟩:=xV (z:=z) rv k3 k2
      have hlen:(kz ks vs).length<sizeLine:=by
       have:(kz ks vs).length=ks.length:=by simp [kz,k3]
       rw [this,sizeLine_eq]
       have:ks.length<1000000:=hc
       omega
      have g:=eQ.k (k:=Sum.inr z) (v:=v) k1 hlen
      have ew:Ext ρ H ρ (upd H a (.dK (L2.putK (kz ks vs) (Sum.inr z) v))):=Ext.write k1 rfl
      exact ⟨a,_,rfl,g,h3 ρ _ ew (s3.write ha ew ⟨ws,by rw [jh,q1],Rs.ext ew _ q2,q3⟩) U (re.ext ew)⟩
     ·rw [zR hc] at h3;exact h3.elim
    | _=>simp only [wS,jY,hn] at h3;exact h3.elim
  | _=>exact h3.elim
 | _=>exact h3.elim
theorem zjm {i value:Expr}{fo fi fv:Ai}(hu:X.A.units+200<cLine) (ho:ME X Er o fo) (hi:ME X Er i fi) (hv:ME X Er value fv) (hs:swapsWith value (some (.Subscript o i pos')) pos.line X.env=pure false:=by rfl):MS X Er (.Assign [.Subscript o i pos'] value pos) (mS fo fi fv) :=
 PS.weak (Rm (by omega) ho hi hv hs) λD U H ⟨env,st,ρ,re,rs,h⟩=>⟨env,st,ρ,re,rs,h.then λaf H1 x ao e1 s1 h1 v rv=>⟨env,ao,af,re.ext e1,s1,h1.then λam H2 y ax e2 s2 h2 w rw=>⟨env,ax,am,(re.ext e1).ext e2,s2,h2.then λaj H3 zz aS e3 s3 h3 u ru=>by
  have FN:=((re.ext e1).ext e2).ext e3
  have FP:=R.ext e3 x (R.ext e2 x rv)
  have FQ:=R.ext e3 _ rw
  rcases Rt (z:=zz) (x:=x) (o:=y) (st:=aS) with e|e|⟨zs,n,k,ks,xs,rfl,rfl,k1,k2,hc,e⟩
  ·rw [e] at h3;exact .inl (Ru s3 FN FP FQ ru h3)
  ·rw [e] at h3;exact h3.elim
  ·rw [e] at h3
   obtain ⟨b,us,rfl,hb,AB⟩:=ru
   obtain ⟨a,rfl,ha⟩:=FQ
   obtain ⟨H',its,vs,t,ex,s',hk,hq,Rv,hr⟩:=AE s3 ha k2
   have:=tV AB k1
   subst this
   have hl:its.length<sizeLine:=by
    have h1:its.length=ks.length:=by rw [<-hk,yM]
    have h2:ks.length<1000000:=hc
    rw [h1,sizeLine_eq];omega
   refine .inr ⟨a,b,k,its,H',rfl,rfl,t,hq,ex.sqT hb,hl,λuu Rw=>?_⟩
   subst hk
   have ea:H' a=some (dE a its):=by
    rcases t with ⟨rfl,e⟩|⟨_,rfl,rfl⟩
    ·exact e
    ·exact jh
   have ew:Ext aj H' aj (upd H' a (dE a (storedH its k b uu))):=Ext.write ea (NQ X.prog X.w)
   obtain ⟨ws,q1,q2,q3,q4⟩:=Rr (k:=k) (b:=b) (R.ext ex x FP) Rw hq (ex.sqT hb) Rv hr
   have sw:=s'.write (so:=.dit (h_ k x (its.map (·.1)) xs).1 (h_ k x (its.map (·.1)) xs).2) ha ew ⟨_,ws,jh,q1,λy hy=>ew.sqT (q2 y hy),q3,Rs.ext ew _ q4⟩
   rw [List.set_set] at sw
   exact h3 aj _ (ex.trans ew) sw U ((FN.ext ex).ext ew)⟩⟩⟩
end
section
variable {X:Cx}{K:Frag}{mg:Ab}{ρ:Ae}{H:Hp}{st:ae}
end
end Mi
namespace L2
open PySem PySem.Spec PyProof.Rows PySem.W
def vj (K:Frag) (a:Addr):It :=
 ⟨λi H=>∃xs x,a5 K H a xs/\xs[i]?=some x,
  λi H v H'=>∃T x,H T=none/\v=.ref T/\H'=upd H T (.tup [.int i,x])/\∀xs,a5 K H a xs->xs[i]?=some x,
  λi H=>∃xs,a5 K H a xs/\xs.length<=i⟩
def vm (e it a:Addr) (k:Nat) (h:Heap):Prop:=(∃old,IsEnum h e it k old)/\IsTupIter h it a k
def Rx {prog:Program}{w:World}{A:Around}{it t:Addr}{xs:Array Value}(ne:t≠it) (hh:A.handled=none):Draws prog w A it [it,t] xs.size (λi x=>xs[i]?=some x) (qf it t xs) where
 live:=λi h q=>let ⟨⟨o,ho,_⟩,_⟩:=q;⟨o,ho⟩
 frame:=λi h h' q k=>(kB (prog:=prog) (w:=w) ne).at_ q (k it (by simp)) (k t (by simp))
 item:=λi s Q E hi q hQ=>(kB ne).item q (Array.getElem?_eq_getElem hi) λh' q' sb=>hQ _ h' s.toks (Array.getElem?_eq_getElem hi) q' sb
 done:=λs Q E q hE=>(kB ne).stop hh q (Array.getElem?_eq_none (yk _)) hE
theorem Ry {prog:Program}{w:World}{A:Around}{E:Aa}{s:Shared}{e it t:Addr}{i:Nat}{xs:Array Value}{old:Value}{Q:Option Value->Shared->Prop}(ne:t≠it) (hh:A.handled=none)
  (he:IsEnum s.heap e it i old) (hit:IsTupIter s.heap it t i) (p:IsTup s.heap t xs) (hi:xs.size<=i) (hQ:∀h',Heap.ExtBut it s.heap h'->Q none { s with heap:=h' }):wpAny (model prog w) A (pyNext (.ref e)) Q E s:=by
 have D:Draws prog w A.in1 it [it,t] i (λj x=>xs[j]?=some x/\j<i/\False) (λj h=>j=i/\qf it t xs j h):=⟨λj h q=>let ⟨_,⟨o,ho,_⟩,_⟩:=q;⟨o,ho⟩,λj h h' q k=>⟨q.1,(kB (prog:=prog) (w:=w) ne).at_ q.2 (k it (by simp)) (k t (by simp))⟩,
  λj s Q E hj q _=>absurd q.1 (by omega),λs Q E q hE=>(kB ne).stop hh q.2 (Array.getElem?_eq_none hi) hE⟩
 exact wpAny_pyNext_enum_endD D he ⟨rfl,hit,p⟩ hQ
def Rz {P:Program}{w:World}{K:Frag}{elts:List Expr}{kt:Nat}{pos:Pos}{e it a:Addr}(ne:e≠it):Turn P w K (.Tuple elts kt pos) (vj K a) [e,it] e (vm e it a) where
 mem:=by simp
 obj:=λi h st c hc=>by
  obtain ⟨⟨old,he⟩,⟨o1,e1,_,d1⟩⟩:=st
  simp only [yz,List.not_mem_nil,gy] at hc
  rcases hc with q|q<;>rw [q]
  ·exact ⟨_,he,λv z=>by cases z⟩
  ·exact ⟨_,e1,λv z=>by rw [d1] at z;cases z⟩
 keep:=λi h h' st k=>by
  obtain ⟨⟨old,he⟩,⟨o1,e1,r1⟩⟩:=st
  exact ⟨⟨old,k e (by simp) _ he⟩,⟨o1,k it (by simp) _ e1,r1⟩⟩
 item:=by
  intro X hP hw hK hc i pins s U H E I hf st hg
  subst hP hw hK
  obtain ⟨xs,x,hq,hx⟩:=hg
  obtain ⟨⟨old,he⟩,hit⟩:=st
  obtain ⟨its,rv,p,hz⟩:=I.tuple hq
  obtain ⟨u,hu,ru⟩:=rv.get hx
  have n1:∀c∈[e,it],a≠c:=λc h=>oq I (hf c h) hq
  have na:a≠it:=n1 it (by simp)
  have RA:a≠e:=n1 e (by simp)
  have bh:i<its.toArray.size:=by have:=(yl.mp hu).1;simpa using this
  refine wpAny_pyNext_enum_itemD (D:=Rx (A:=X.A.in1) na (I.ok.hd hc)) he ⟨hit,p⟩ bh ne (by simp;exact ⟨ne,λz=>RA z.symm⟩) λx1 h1 tk RB eo qx pT hsz kk=>⟨_,rfl,?_⟩
  have xu:x1=u:=by
   have h0:its.toArray[i]?=some x1:=RB
   rw [List.getElem?_toArray,hu] at h0
   exact (Option.some.inj h0).symm
  subst xu
  refine wpAny_letOwnedTupleGo_enum (s:={ s with heap:=h1,toks:=tk+1 }) eo λh2 e2 sb=>?_
  have fr:H s.heap.objs.size=none:=I.hok.fresh (yk _)
  have up:∀c o,c≠e->h1.get? c=some o->h2.get? c=some o:=λc o n q=>sb.extBut _ _ n q
  have nz:s.heap.objs.size≠e:=Nat.ne_of_gt (yF he)
  have k2:∀c o,c∉[e,it]->s.heap.get? c=some o->h2.get? c=some o:=λc o nc q=>up c o (λz=>nc (by simp [z])) (kk c o (λz=>nc (by simp [z])) (λz=>nc (by simp [z])) q)
  refine ⟨.ref s.heap.objs.size,upd H s.heap.objs.size (.tup [.int i,x]),?_,rfl,⟨s.heap.objs.size,x,fr,rfl,rfl,λys hy=>by rw [I.tuple_inj hy hq];exact hx⟩,?_,λc cX=>?_⟩
  ·exact Inv.turnN (s:=s) (h':=h2) (t':=tk+1) I hf k2 (yk _) ⟨show 2<=sizeLine by decide,[.int i tk,x1],.cons ⟨_,rfl⟩ (.cons ru .nil),_,up _ _ nz pT,rfl,_,rfl⟩
  ·refine ⟨⟨x1,by rw [show ((i+1:Nat):Int)=(i:Int)+1 from rfl];exact e2⟩,let ⟨⟨o,q,r⟩,_⟩:=qx;⟨o,up _ _ ne.symm q,r⟩⟩
  ·have lt:∃o,s.heap.get? c=some o:=by
    simp only [yz,List.not_mem_nil,gy] at cX
    rcases cX with q|q<;>rw [q]
    ·exact ⟨_,he⟩
    ·exact let ⟨o,q,_⟩:=hit;⟨o,q⟩
   obtain ⟨o,q⟩:=lt
   have z:c≠s.heap.objs.size:=jg (yF q)
   rw [yE z]
   exact (hf c cX).1
 done:=by
  intro X hP hw hK hc i pins s U H E I hf st hg
  subst hP hw hK
  obtain ⟨xs,hq,hx⟩:=hg
  obtain ⟨⟨old,he⟩,hit⟩:=st
  obtain ⟨its,rv,p,hz⟩:=I.tuple hq
  have hl:=rv.length
  have n1:∀c∈[e,it],a≠c:=λc h=>oq I (hf c h) hq
  refine Ry (n1 it (by simp)) (I.ok.hd hc) he hit p (by simp;omega) λh' eb=>⟨rfl,?_⟩
  exact Inv.turnL (ch:=[e,it]) (t':=s.toks) I hf λc o nc q=>eb c o (λz=>nc (by simp [z])) q
 self:=λ_ _ _ _ _ st h=>by
  obtain ⟨⟨old,he⟩,_⟩:=st
  exact wpAny_pyIter_enum he h
def RC (K:Frag) (ta:TA):TI:=λU H R=>ta U H λvs H1=>∃a,vs=[.ref a]/\(∃xs,a5 K H1 a xs)/\R (vj K a) H1
abbrev tY (h:Heap) (a:Addr):Heap:=h.push { cls:=.type "tuple_iterator", data:=.fields #[.ref a,.int 0 0] }
abbrev oN (h:Heap) (a:Addr):Heap:=(tY h a).push { cls:=.type "enumerate", data:=.fields #[.none,.bool false,.ref h.objs.size,rawInt 0,.none,.none] }
def RD (a:Addr) (xs:Array Value) :
  Meets (Builtin.«enumerate.__new__» ⟨[.type "enumerate", .ref a],[]⟩) (λ_ R s=>IsTup s.heap a xs/\R (.ok (.ret (.ref (tY s.heap a).objs.size))) { s with heap:=oN s.heap a }) :=
 .of_wp λprog w A R s h=>by
  obtain ⟨hp,g,d,tk,os⟩:=s
  obtain ⟨h1,h⟩:=h
  have DU:=sub_enumerate
  have H1:IsTup (Shared.heap ⟨hp,g,d,tk,os⟩) a xs:=h1
  obtain ⟨⟨cl,dd,dt,sl⟩,ho,qe,n,hd⟩:=id H1
  replace qe:cl=.type "tuple" := qe
  replace hd:dt=.seq xs n:=hd
  subst qe hd
  wp_walk using AutoSeq1.wpAny_loadPart' ho
  refine wpAny_stack_any λst=>yg ?_
  split
  ·rename_i c _ _ _ _ _
   cases (c==Value.type "enumerate")
   all_goals (wp_walk using AutoSeq1.wpAny_loadPart' ho,iter_tuple H1;exact ⟨_,rfl,h⟩)
  ·wp_walk using AutoSeq1.wpAny_loadPart' ho,iter_tuple H1
   exact ⟨_,rfl,h⟩
def RE {prog:Program}{w:World}{A:Around}{E:Aa}{s:Shared}{a:Addr}{xs:Array Value}{Q:Aa}(h1:IsTup s.heap a xs)
  (h:vm (s.heap.objs.size+1) s.heap.objs.size a 0 (oN s.heap a)->Q (.ref (s.heap.objs.size+1)) { s with heap:=oN s.heap a }) :
  wpAny (model prog w) A (call (.type "enumerate") [.ref a]) Q E s:=by
 refine callType_new F.called_enumerate (by decide) (F.typeCall_enumerate_1 _) (F.newCall_enumerate_1 _) (λobj=>F.args_object_init_2 obj _) F.entry_enumerate_new (RD a xs) ⟨h1,?_⟩
 have z1:(tY s.heap a).objs.size=s.heap.objs.size+1:=Heap.size_push ..
 have g2:(oN s.heap a).get? (tY s.heap a).objs.size=some _:=jq _ rfl
 have g1:(oN s.heap a).get? s.heap.objs.size=some _:=yC _ (jq _ rfl)
 show _/\_
 rw [z1] at g2
 rw [z1]
 exact ⟨⟨_,g2,rfl⟩,h ⟨⟨_,g2⟩,⟨_,g1,rfl,rfl⟩⟩⟩
theorem FR {X:Cx} {elts:List Expr} {kt:Nat} {tp:Pos} {x:Expr} {ta:TA} {p pos:Pos} (hg:Gl X "enumerate") (hm:X.mg "enumerate" = none) (ha:PA X [x] ta) (hs:starEach [x] X.env=[(false,eval x X.env)]:=by rfl) :
  PI X (.Tuple elts kt tp) (.Call (.Name "enumerate" p) [x] [] pos) (RC X.K ta):=by
 intro pins s U H R I h
 refine Call_ (lV I hg hm EE (PyProof.Rows.callWith_type1 (aO (ha pos pins s U H _ I h) λus s1 ⟨vs,H1,I1,r1,q1⟩=>?_) hs rfl))
 obtain ⟨a,e,⟨xs,hq⟩,q⟩:=q1
 subst e
 obtain ⟨u,rfl,ru⟩:=r1.one
 obtain rfl:u=Value.ref a:=ru
 obtain ⟨its,_,p1,_⟩:=I1.tuple hq
 have kk:∀b o,s1.heap.get? b=some o->(oN s1.heap a).get? b=some o:=λb o q=>yC _ (yC _ q)
 refine RE p1 λest=>wpAny_pyIter_enum est.1.choose_spec ?_
 have ne:∀(n:Nat),n+1≠n:=λn z=>by omega
 refine ⟨_,[s1.heap.objs.size+1,s1.heap.objs.size],_,_,H1,rfl,I1.kept (t':=s1.toks) kk,Rz (ne _),est,λc hc=>?_,q⟩
 have le:s1.heap.objs.size<=c:=by
  simp only [yz,List.not_mem_nil,gy] at hc
  rcases hc with q|q<;>rw [q]<;>first|exact yk _|exact Nat.le_add_right _ _
 exact I1.fpOk le (I1.hok.fresh le)
end L2
namespace Mi
open PySem L2 PySem.W PySem.Spec
section
variable {X:Cx}{Er:XK}{fs:Ah}{pos:Pos}
def dR (ft:Ak) (fe:Ai) (env:zj):Nat->List PV->Al
 | _,[],ys,st=>.ok (.ref st.length) (st++[.lst ys])
 | i,x::r,ys,st=>(cT (ft (some (.int i)::some x::env) st)).bind λb ao=>if b=true then (cT (fe (some (.int i)::some x::env) ao)).bind λy ax=>dR ft fe env (i+1) r (ys++[y]) ax
   else dR ft fe env (i+1) r ys ao
def qO:List PV->Mo (An)
 | [.tup xs],st=>if xs.length<=lim then .ok xs st else .stuck
 | _,_=>.stuck
def AI (fs:Ah) (ft:Ak) (fe:Ai):Ai:=λenv st=>(fs env st).bind λvs ao=>(qO vs ao).bind λxs ao=>dR ft fe env 0 xs [] ao
def FT {α:Type}{K:Frag}{mg:Ab}{ρ:Ae}{H:Hp}{st:ae}{vs:An}{k:List PV->Mo α}{good:List Addr->Hp->α->ae->Prop}{E:XK}(h:Out K mg ρ H ((qO vs st).bind k) good E):∃xs,vs=[.tup xs]/\xs.length<=lim/\Out K mg ρ H (k xs st) good E:=by
 cases vs with
 | nil=>exact h.elim
 | cons v r =>
  cases r with
  | cons _ _=>cases v<;>exact h.elim
  | nil =>
   cases v with
   | tup xs =>
    by_cases hl:xs.length<=lim
    ·refine ⟨xs,rfl,hl,?_⟩
     have e:qO [.tup xs] st=.ok xs st:=zF hl
     rw [e] at h
     exact h
    ·have e:qO [.tup xs] st=.stuck:=zR hl
     rw [e] at h
     exact h.elim
   | _=>exact h.elim
theorem RF {elt e c:Expr} {x y:Str} {kt:Nat} {px py tp p ip:Pos} {scope:Scope} {ft:Ak} {fe:Ai} {N:Ad} (hc:X.calm=true) (S:dv X.env.scope scope [x,y]) (eN:X.N=N) (cH:((".0" : Str)::([x,y]++N)).Nodup)
  (hm:X.mg "enumerate" = none) (ha:MA X Er [e] fs) (ma:∀cl C aa ag fp,MT (eD X scope cl [x,y] C aa ag fp (λ_ _=>False)) XN c ft) (he:∀cl C aa ag fp,ME (eD X scope cl [x,y] C aa ag fp (λ_ _=>False)) XN elt fe)
  (hx:scope.names.lookup x=some .local:=by rfl) (hy:scope.names.lookup y=some .local:=by rfl) (qy:Gl X "enumerate" := by rfl) (cG:starEach [e] X.env=[(false,eval e X.env)]:=by rfl)
  (hs:∀v,foldedSetIterable (.Call (.Name "enumerate" p) [e] [] ip) X.env v=pure v:=by intro _;rfl) :
  ME X Er (.ListComp elt [⟨.Tuple [.Name x px,.Name y py] kt tp,.Call (.Name "enumerate" p) [e] [] ip,[c],0⟩] scope pos) (AI fs ft fe):=by
 have hN:([x,y]++X.N).Nodup:=by rw [eN];exact (jB.mp cH).2
 have gO:∀cl C aa ag fp E,PG (eD X scope cl [x,y] C aa ag fp E) (.Tuple [.Name x px,.Name y py] kt tp) (vB X.K 2 (pG (gh 0) (pG (gh 1) vz))):=λcl C aa ag fp E=>vC (n:=2) hc
  (nX (iJ (X:=eD X scope cl [x,y] C aa ag fp E) (i:=0) hN rfl (.inl (wE hx)) (.inr (wE hx)))
  (nX (iJ (X:=eD X scope cl [x,y] C aa ag fp E) (i:=1) hN rfl (.inl (wE hy)) (.inr (wE hy))) vA))
 exact PE.weak (v8 (te:=tM X.K X.mg XN fe) (tt:=oy X.K X.mg XN ft) hc S eN cH (FR qy hm ha cG) gO (λcl C aa ag fp=>Du (ma cl C aa ag fp)) (λcl C aa ag fp=>he cl C aa ag fp) hs) λU H Q ⟨env,st,ρ,re,rs,h⟩=>⟨env,st,ρ,re,rs,h.then λap H0 vs c9 e0 s0 h0 us ru=>by
  obtain ⟨xs,rfl,pW,h0⟩:=FT h0
  obtain ⟨v,rfl,rv⟩:=ru.one
  obtain ⟨a,kA,rfl,qP,tG⟩:=rv
  refine ⟨a,rfl,⟨_,qP⟩,?_⟩
  have ln:lim=1000000:=rfl
  refine ⟨λi m ys H=>m+i=lim+1/\i<=xs.length/\ys.length<=i/\∃ps st ρ,Rs X.K X.mg ρ H ps ys/\aX X.K X.mg ρ H st/\Ext ap H0 ρ H/\Out X.K X.mg ρ H (dR ft fe env i (xs.drop i) ps st) (gV X.K X.mg Q) Er,⟨lim+1,rfl,js _,js _,[],c9,ap,rfl,s0,Ext.refl,h0⟩,?_⟩
  rintro i m ys H ⟨hm,hi,hy,ps,st,ρ,cM,rs,ex,h⟩
  have hq:=ex.sqT qP
  have hR:=Rs.ext ex _ tG
  cases hx:xs[i]? with
  | none =>
   have hl:xs.length<=i:=lU.mp hx
   rw [iD hl] at h
   exact .inl ⟨⟨kA,hq,by rw [<-hR.len];exact hl⟩,jn (by omega),λl hl=>Out.newList h rs cM hl⟩
  | some x =>
   have bh:i<xs.length:=(yl.mp hx).1
   have AJ:xs.drop i=x::xs.drop (i+1):=by
    rw [j8 bh]
    congr 1
    exact (yl.mp hx).2
   rw [AJ] at h
   obtain ⟨v,hv,rv⟩:=hR.get hx
   refine .inr ⟨⟨kA,v,hq,hv⟩,jn (by omega),λv' H' y=>?_⟩
   obtain ⟨T,x',hT,rfl,rfl,y⟩:=y
   have e2:=y kA hq
   rw [hv] at e2
   cases e2
   have bP:Ext ρ H ρ (upd H T (.tup [.int i,v])):=Ext.new hT
   refine ⟨T,[.int i,v],rfl,.inl (.inl jh),rfl,.int i,[v],rfl,v,[],rfl,rfl,[some (.int i),some v],rfl,rfl,?_⟩
   have iU:a_ X.K X.mg ρ (upd H T (.tup [.int i,v])) (some (.int i)::some x::env) (some (.int i)::some v::U):=(((re.ext (e0.trans ex)).ext bP).cons (R.ext bP x rv)).cons rfl
   refine ⟨_,st,ρ,iU,rs.new hT,gW (Out.ext h bP) λaj H3 b aS e3 s3 h3=>?_⟩
   obtain ⟨m,rfl⟩:∃m',m=m'+1:=⟨m-1,by omega⟩
   cases b with
   | true =>
    refine ⟨_,aS,aj,iU.ext e3,s3,gW h3 λaD H4 y fg e4 s4 h4 v4 r4=>⟨m,wv m,by omega,by omega,by simp;omega,ps++[y],fg,aD,Rs.snoc r4 (Rs.ext ((bP.trans e3).trans e4) ps cM),s4,((ex.trans bP).trans e3).trans e4,h4⟩⟩
   | false=>exact ⟨m,wv m,by omega,by omega,by omega,ps,aS,aj,Rs.ext (bP.trans e3) ps cM,s3,(ex.trans bP).trans e3,h3⟩⟩
end
section
variable {X:Cx}{Er:XK}{pos:Pos}{dX:List Stmt}{gb:Aj}{fs:Ah}
def fM:Nat->List PV->An
 | _,[]=>[]
 | i,x::r=>.tup [.int i,x]::fM (i+1) r
def mT (fs:Ah) (g:PV->zj->Option zj) (body:Aj):Aj:=λenv st=>(fs env st).bind λvs ao=>(qO vs ao).bind λxs ao=>forL g body (fM 0 xs) env ao
theorem zjp {elts:List Expr} {kt:Nat} {tp p ip:Pos} {x:Expr} {gt:PV->zj->Option zj} (hp:PassesOwn (model X.prog X.w) X.A X.env X.xe) (hc:X.calm=true) (hm:X.mg "enumerate" = none) (ha:MA X Er [x] fs) (hg:MG X Er (.Tuple elts kt tp) gt) (hb:ff X Er dX gb)
  (qy:Gl X "enumerate" := by rfl) (cG:starEach [x] X.env=[(false,eval x X.env)]:=by rfl) (hs:∀v,foldedSetIterable (.Call (.Name "enumerate" p) [x] [] ip) X.env v=pure v:=by intro _;rfl) :
  MS X Er (.For (.Tuple elts kt tp) (.Call (.Name "enumerate" p) [x] [] ip) dX [] pos) (mT fs gt gb) :=
 PS.weak (vE hp hc (FR qy hm ha cG) hg hb hs) λD U H ⟨env,st,ρ,re,rs,h⟩=>⟨env,st,ρ,re,rs,h.then λap H0 vs c9 e0 s0 h0 us ru=>by
  obtain ⟨xs,rfl,pW,h0⟩:=FT h0
  obtain ⟨v,rfl,rv⟩:=ru.one
  obtain ⟨a,kA,rfl,qP,tG⟩:=rv
  refine ⟨a,rfl,⟨_,qP⟩,?_⟩
  refine ⟨λi m U H=>m+i=lim+1/\i<=xs.length/\∃env st ρ,a_ X.K X.mg ρ H env U/\aX X.K X.mg ρ H st/\Ext ap H0 ρ H/\Out X.K X.mg ρ H (forL gt gb (fM i (xs.drop i)) env st) (gS X.K X.mg D) Er,⟨lim+1,rfl,js _,env,c9,ap,re.ext e0,s0,Ext.refl,h0⟩,?_⟩
  rintro i m U H ⟨hm,hi,env,st,ρ,re,rs,ex,h⟩
  have hq:=ex.sqT qP
  have hR:=Rs.ext ex _ tG
  cases hx:xs[i]? with
  | none =>
   have hl:xs.length<=i:=lU.mp hx
   rw [iD hl] at h
   exact .inl ⟨⟨kA,hq,by rw [<-hR.len];exact hl⟩,Out.now (x:=Fl.nx env) h rs U re⟩
  | some x =>
   have bh:i<xs.length:=(yl.mp hx).1
   have AJ:xs.drop i=x::xs.drop (i+1):=by
    rw [j8 bh]
    congr 1
    exact (yl.mp hx).2
   rw [AJ] at h
   obtain ⟨v,hv,rv⟩:=hR.get hx
   have ln:lim=1000000:=rfl
   obtain ⟨m,rfl⟩:∃m',m=m'+1:=⟨m-1,by omega⟩
   refine .inr ⟨⟨kA,v,hq,hv⟩,_,λai H' p'=>⟨m,wv m,p'⟩,λv' H' y=>?_⟩
   obtain ⟨T,x',hT,rfl,rfl,y⟩:=y
   have e2:=y kA hq
   rw [hv] at e2
   cases e2
   have bP:Ext ρ H ρ (upd H T (.tup [.int i,v])):=Ext.new hT
   replace h:Out X.K X.mg ρ H (match gt (.tup [.int i,x]) env with
    | none=>.stuck
    | some bQ=>(gb bQ st).bind λfl ax=>match fl with
     | .nx e=>forL gt gb (fM (i+1) (xs.drop (i+1))) e ax
     | .ct e=>forL gt gb (fM (i+1) (xs.drop (i+1))) e ax
     | .bk e=>.ok (.nx e) ax
     | .rt v=>.ok (.rt v) ax) (gS X.K X.mg D) Er:=h
   cases hgx:gt (.tup [.int i,x]) env with
   | none=>simp only [hgx] at h;exact h.elim
   | some bQ =>
    simp only [hgx] at h
    refine ⟨.tup [.int i,x],env,bQ,ρ,⟨T,[.int i,v],rfl,.inl (.inl jh),_,_,rfl,rfl,_,_,rfl,R.ext bP x rv,rfl⟩,re.ext bP,hgx,λar r1=>⟨bQ,st,ρ,r1,rs.new hT,Out.then (Out.ext h bP) λaj H3 fl aS e3 s3 h3=>?_⟩⟩
    cases fl with
    | nx e=>exact λaA r4=>⟨by omega,by omega,e,aS,aj,r4,s3,(ex.trans bP).trans e3,h3⟩
    | ct e=>exact λaA r4=>⟨by omega,by omega,e,aS,aj,r4,s3,(ex.trans bP).trans e3,h3⟩
    | bk e=>exact Out.fl (D:=D) (fl:=.nx e) (E:=Er) h3 s3
    | rt v=>exact Out.fl (D:=D) (fl:=.rt v) (E:=Er) h3 s3⟩
def RG {gt:PV->zj->Option zj}{e:zj}{st s1:ae}{xs:An}{X:Res Fl}(h:fs e st=.ok [.tup xs] s1) (hl:xs.length<=1000000) (h':forL gt gb (fM 0 xs) e s1=X):mT fs gt gb e st=X:=by
 show (fs e st).bind _=_
 rw [h,zJ]
 show (if xs.length<=lim then Res.ok xs s1 else .stuck).bind _=_
 rw [zF hl,zJ,h']
end
end Mi
abbrev Mi.At (n:Nat):Option Mi.PV:=some (.ref n)
abbrev Mi.Au (n:Nat):Option Mi.PV:=some (.int n)
abbrev Mi.Ar (i:Int):=Mi.mC (.int i)
abbrev Mi.As (z:PySem.Str):=Mi.mC (.str z)
namespace FK43
open PySem L2 PySem.W Mi
noncomputable def top (i:Nat):Stmt:=PySem.Challenge.pw_foreknown_k43_nothing_taken_out.main.body.getD i (.Pass ⟨0,0,0,0⟩)
noncomputable abbrev FU:Stmt:=top 23
noncomputable abbrev FV:Stmt:=top 24
noncomputable abbrev FW:Stmt:=top 26
noncomputable abbrev FX:Stmt:=top 27
noncomputable abbrev FY:Stmt:=top 28
noncomputable abbrev zfL:Stmt:=top 29
noncomputable abbrev FZ:Stmt:=top 30
noncomputable abbrev F3:Stmt:=top 31
noncomputable abbrev F5:Stmt:=top 35
noncomputable abbrev F6:Stmt:=top 25
noncomputable abbrev F7:Stmt:=top 37
noncomputable abbrev F8:Stmt:=top 38
noncomputable abbrev F9:Stmt:=top 36
noncomputable abbrev F_:Stmt:=top 32
noncomputable abbrev Ga:Stmt:=top 33
noncomputable abbrev zd5:Stmt:=top 34
noncomputable abbrev Gb:Stmt:=top 39
noncomputable abbrev Ge:Stmt:=top 6
noncomputable abbrev Gf:Stmt:=top 13
noncomputable abbrev Gg:Stmt:=top 8
noncomputable abbrev zfM:Stmt:=top 12
noncomputable abbrev Gh:Stmt:=top 2
noncomputable abbrev Gi:Stmt:=top 9
noncomputable abbrev zfN:Stmt:=top 10
noncomputable abbrev Gj:Stmt:=top 1
noncomputable abbrev Gk:Stmt:=top 4
noncomputable abbrev Gm:Stmt:=top 18
noncomputable abbrev Gn:Stmt:=top 3
noncomputable abbrev Gp:Stmt:=top 19
noncomputable abbrev Gq:Stmt:=top 20
noncomputable abbrev zfO:Stmt:=top 21
noncomputable abbrev zfP:Stmt:=top 11
noncomputable abbrev zfQ:Stmt:=inClass (top 15) 0
noncomputable abbrev zfR:Stmt:=inClass (top 15) 2
noncomputable abbrev zfS:Stmt:=inClass (top 15) 1
noncomputable abbrev zfT:Stmt:=inClass (top 15) 3
noncomputable abbrev zd6:Stmt:=top 5
noncomputable abbrev zfU:Stmt:=top 14
noncomputable abbrev Gr:Stmt:=top 16
noncomputable abbrev Gs:Stmt:=top 40
noncomputable abbrev zfV:Stmt:=top 49
noncomputable abbrev Gu:Stmt:=top 46
noncomputable abbrev AK:Stmt:=top 47
noncomputable abbrev zfW:Stmt:=top 48
noncomputable abbrev Gv:Stmt:=top 50
noncomputable abbrev Gw:Stmt:=top 51
noncomputable abbrev Gx:Stmt:=top 41
noncomputable abbrev Gy:Stmt:=top 52
noncomputable abbrev AL:Stmt:=top 53
noncomputable def insOf (c:Str):Bool:=decide (c = "Holding")
noncomputable def excOf (c:Str):Bool:=false
noncomputable def isT:IsT where
 isx c:=false
 sub c B :=  none
 subT c n :=  none
 tyC _ _:=none
structure Txt (w:World) (K:Frag) (mg:Ab):Prop where
 f__law_at:FnF K mg "_law_at" FU ["_law_script", "_law_k"]
 f__law_pick:FnF K mg "_law_pick" FV ["_law_cell", "_law_turn_here", "_law_many"]
 f__law_word:FnF K mg "_law_word" FW ["_law_cell"]
 f__law_value:FnF K mg "_law_value" FX ["_law_cell"]
 f__law_atom:FnF K mg "_law_atom" FY ["_law_cell", "_law_turn_here", "_law_scope"]
 f__law_atoms:FnF K mg "_law_atoms" zfL ["_law_cell", "_law_many", "_law_scope"]
 f__law_op:FnF K mg "_law_op" FZ ["_law_k"]
 f__law_step:FnF K mg "_law_step" F3 ["_law_cell", "_law_name_here", "_law_scope", "_law_heads"]
 f__law_long:FnF K mg "_law_long" F5 ["_law_script"]
 f__law_name:FnF K mg "_law_name" F6 ["_law_seed", "_law_k"]
 f__law_turn:FnF K mg "_law_turn" F7 ["_law_cell", "_law_aim"]
 f__law_ring:FnF K mg "_law_ring" F8 ["_law_script"]
 f__law_deep:FnF K mg "_law_deep" F9 ["_law_script"]
 f__law_end:FnF K mg "_law_end" F_ ["_law_cell", "_law_way", "_law_scope", "_law_heads"]
 f__law_block:FnF K mg "_law_block" Ga ["_law_script", "_law_f", "_law_b", "_law_scope", "_law_heads", "_law_seed"]
 f__law_small:FnF K mg "_law_small" zd5 ["_law_script"]
 f__law_program:FnF K mg "_law_program" Gb ["_law_script"]
 f_functions_by_name:FnF K mg "functions_by_name" Ge ["program"]
 f_marked:FnF K mg "marked" Gf ["names"]
 f_is_later_at:FnF K mg "is_later_at" Gg ["bits", "place"]
 f_later_params:FnF K mg "later_params" zfM ["function", "bits"]
 f_lines_of:FnF K mg "lines_of" Gh ["block"]
 f_bits_of:FnF K mg "bits_of" Gi ["truths"]
 f_need:FnF K mg "need" zfN ["atoms", "later"]
 f_is_step:FnF K mg "is_step" Gj ["line"]
 f_atoms_of:FnF K mg "atoms_of" Gk ["line"]
 f_broken_name:FnF K mg "broken_name" Gm ["line", "later"]
 f_aim_of:FnF K mg "aim_of" Gn ["line"]
 f_broken_aim:FnF K mg "broken_aim" Gp ["aim", "goal", "later", "pairs"]
 f_broken_form:FnF K mg "broken_form" Gq ["function", "form", "pairs"]
 f_broken:FnF K mg "broken" zfO ["program", "parting"]
 f_held_bits:FnF K mg "held_bits" zfP ["function", "held"]
 n_Holding:NwF K mg "Holding" "Holding.__init__" zfQ ["self", "program", "held"]
 m_Holding_goal_of:MtF K mg "Holding" "goal_of" "Holding.goal_of" zfR ["self", "aim", "later"]
 m_Holding_makes_later:MtF K mg "Holding" "makes_later" "Holding.makes_later" zfS ["self", "name", "step", "later"]
 m_Holding_best_form:MtF K mg "Holding" "best_form" "Holding.best_form" zfT ["self", "function", "bits"]
 f_aims_of:FnF K mg "aims_of" zd6 ["block"]
 f_aimed_pairs:FnF K mg "aimed_pairs" zfU ["function", "goals"]
 f_best:FnF K mg "best" Gr ["program", "bits", "held"]
 f__law_lines:FnF K mg "_law_lines" Gs ["_law_block_here"]
 f__law_held:FnF K mg "_law_held" zfV ["_law_cell", "_law_program_here"]
 f__law_whole:FnF K mg "_law_whole" Gu ["_law_found"]
 f__law_is_form:FnF K mg "_law_is_form" AK ["_law_form"]
 f__law_is_parting:FnF K mg "_law_is_parting" zfW ["_law_found"]
 f__law_places:FnF K mg "_law_places" Gv ["_law_found"]
 f__law_less:FnF K mg "_law_less" Gw ["_law_found", "_law_place"]
 f__law_by:FnF K mg "_law_by" Gx ["_law_program_here", "_law_name_here"]
 f__law_row:FnF K mg "_law_row" Gy ["_law_program_here", "_law_found", "_law_place"]
 f_law:FnF K mg "law" AL ["_law_script"]
 b_all:mg "all" = none
 b_bool:mg "bool" = none
 b_enumerate:mg "enumerate" = none
 b_int:mg "int" = none
 b_isinstance:mg "isinstance" = none
 b_len:mg "len" = none
 b_list:mg "list" = none
 b_min:mg "min" = none
 b_range:mg "range" = none
 b_str:mg "str" = none
 b_sum:mg "sum" = none
 b_tuple:mg "tuple" = none
 b_zip:mg "zip" = none
 d_bits_by_name:FldF K mg "bits_by_name" insOf excOf
 d_pairs:FldF K mg "pairs" insOf excOf
 is:IsF K mg isT
section
variable {P:Program}{w:World}{K:Frag}{mg:Ab}{base:Heap}
set_option hygiene false in
local macro_rules
|`(tactic|exact $s:str)=>do
 let ts<-(s.getString.splitOn " ").toArray.mapM λ(w:String)=>do
  let p:=(w.drop 1).toString
  let i:Lean.TSyntax `term:=if p.all Char.isDigit then ⟨(Lean.Syntax.mkNumLit p).raw⟩ else ⟨(Lean.mkIdent p.toName).raw⟩
  match w.toList.headD 'a' with
  |'a'=>`(tactic|refine $i ?_ ?_)
  |'b'=>`(tactic|exact (zh $i))
  |'c'=>`(tactic|exact $i)
  |'d'=>`(tactic|refine $i ?_)
  |'e'=>`(tactic|refine zO ($i T) (hr.mono (by decide)) zQ ?_)
  |'f'=>`(tactic|refine zH ?_ ?_ ?_ ?_)
  |'g'=>`(tactic|refine zB $i ?_ ?_)
  |'h'=>`(tactic|exact λ_ _=>rfl)
  |'i'=>`(tactic|exact (zI (zx hr)))
  |'j'=>`(tactic|refine zU $i ?_ ?_)
  |'k'=>`(tactic|refine yj ($i (zx hr)) ?_ ?_)
  |'l'=>`(tactic|refine zg ?_ ?_)
  |'m'=>`(tactic|refine $i ?_ ?_ ?_)
  |'n'=>`(tactic|exact zp)
  |'o'=>`(tactic|exact zq)
  |'p'=>`(tactic|refine wf (jv rfl rfl) rfl ?_ ?_ ?_)
  |'q'=>`(tactic|refine yW jS T.b_len jQ ?_)
  |'r'=>`(tactic|refine yW (OE T.is) T.b_isinstance O2 ?_)
  |'s'=>`(tactic|exact (wY (zx hr) (zI (zx hr))))
  |'t'=>`(tactic|refine wc wJ T.b_tuple jZ ?_)
  |'u'=>`(tactic|refine zC ?_ ?_)
  |'v'=>`(tactic|refine zO ($i T) (hr.mono (by decide)) PY ?_)
  |'w'=>`(tactic|refine zO ($i T) (hr.mono (by omega)) zQ ?_)
  |'x'=>`(tactic|refine zK ?_)
  |'y'=>`(tactic|refine yj $i ?_ ?_)
  |'z'=>`(tactic|refine OV T.b_range ?_)
  |'A'=>`(tactic|intro _ _ _ _ _)
  |'B'=>`(tactic|refine qw (N:=["_law_form"]) rfl (by exact ⟨rfl,by decide +kernel,by decide +kernel,rfl,by show ∀y:Str×NameKind,y∈_->y.2=NameKind.free->List.lookup y.1 (yc AK).names=some NameKind.cell;decide +kernel⟩) rfl (by decide +kernel) ?_ ?_)
  |'C'=>`(tactic|refine zP ?_)
  |'D'=>`(tactic|exact zS)
  |'E'=>`(tactic|refine yd ?_)
  |'F'=>`(tactic|refine $i (jv rfl rfl) rfl T.b_enumerate ?_ ?_ ?_)
  |'G'=>`(tactic|exact (zh 0))
  |'H'=>`(tactic|refine zO Gz (hr.mono (by omega)) zQ ?_)
  |'I'=>`(tactic|refine Ou (λc m h=>$i T h) ?_ (hr.mono (by decide)) zQ ?_)
  |'J'=>`(tactic|exact (zh 1))
  |'K'=>`(tactic|exact yw)
  |'L'=>`(tactic|refine yq ?_ ?_ ?_)
  |'M'=>`(tactic|refine zB yp ?_ ?_)
  |'N'=>`(tactic|refine zB yr ?_ ?_)
  |'O'=>`(tactic|refine zO (GA T 12) (hr.mono (by decide)) zQ ?_)
  |'P'=>`(tactic|exact (oz T.b_tuple jZ))
  |'Q'=>`(tactic|refine $i ?_ ?_ ?_ ?_ ?_)
  |'R'=>`(tactic|refine sU ($i (zx hr)) ?_ ?_)
  |'S'=>`(tactic|refine yW (QO rfl) T.b_all QP ?_)
  |'T'=>`(tactic|exact (zh 2))
  |'U'=>`(tactic|exact (zh 3))
  |'V'=>`(tactic|exact (zx hr))
  |'W'=>`(tactic|refine yj (yP (zx hr)) ?_ ?_)
  |'X'=>`(tactic|refine sU (Ro (zx hr) (zdR (zx hr))) ?_ ?_)
  |'Y'=>`(tactic|refine yj (Rp (zx hr) (zdS (zx hr))) ?_ ?_)
  |'Z'=>`(tactic|exact zau.nd)
  |'0'=>`(tactic|exact AO.nd)
  |'1'=>`(tactic|exact AQ.nd)
  |'2'=>`(tactic|refine OB $i ?_)
  |'3'=>`(tactic|exact (we 2 $i))
  |'4'=>`(tactic|exact (we 5 $i))
  |'5'=>`(tactic|refine jx ?_)
  |'6'=>`(tactic|exact tZ.nd)
  |'7'=>`(tactic|exact AR.nd)
  |'8'=>`(tactic|refine wc (Qz rfl) T.b_list O4 ?_)
  |'!'=>`(tactic|exact ⟨rfl,by decide +kernel,by decide +kernel,rfl,by show ∀y:Str×NameKind,y∈_->y.2=NameKind.free->List.lookup y.1 (yc $i).names=some NameKind.cell;decide +kernel⟩)
  |'#'=>`(tactic|exact ⟨rfl,by decide +kernel,by decide +kernel,by show ∀y:Str×NameKind,y∈_->y.2=NameKind.free->List.lookup y.1 (yc $i).names=some NameKind.cell;decide +kernel⟩)
  |'%'=>`(tactic|first|exact Or.inl rfl|exact Or.inr rfl)
  |'&'=>`(tactic|first|exact .inl rfl|exact .inr rfl|assumption)
  |'9'=>`(tactic|exact ⟨rfl,rfl,rfl,by decide +kernel,rfl,by decide +kernel,by decide +kernel⟩)
  |_=>Lean.Macro.throwUnsupported
 `(tactic|($[$ts]*))
theorem zjX:aq ["_law_script", "_law_k", "_law_number"] ["_law_script", "_law_k"] (yc FU):=by exact "9"
noncomputable def AU:Aj :=
  (zV (ze zY (ze jo (zc 2) (zc 2)) (Ar 999983)))
noncomputable def AV:Aj :=
  zw (zG 2 (ze zY (ze zT (ze zT (zu x6 (zd (wb (zc 0) bU (bC (Ar 63))) zm)) (ze jo (Ar 977) (zc 1))) (Ar 13)) (Ar 1000003))) (AU)
noncomputable def AW:Aj :=
  zw (zZ (mB (ze wR (zc 1) (zu yH (zd (zc 0) zm))))
  (zV (ze zt (zc 0) (zc 1)))
  ye) (AV)
noncomputable def jp:Al:=ym 2 3 (AW)
def wN (T:Txt w K mg):a7 P w K mg base "_law_at" 1 jp:=T.f__law_at.ok (k:=0) zjX λ_ _ _ _ _ _ _ hr=>by
 exact "u L yzb9 J q l G o x E f i G J h K u j2 N M M"
 refine yW (Qd rfl) T.b_sum Qe ?_
 exact "l mzbb G czba dzaQ n o gwu n J n n czjX.nd x E N gwu T T n"
theorem RH:aq ["_law_cell", "_law_turn_here", "_law_many"] ["_law_cell", "_law_turn_here", "_law_many"] (yc FV):=by exact "9"
noncomputable def RI:Aj :=
  (zV (ze zY (ze zY (ze zT (ze jo (ze zY (zc 0) (Ar 1000003)) (ze zT (Ar 48271) (ze jo (Ar 2) (zc 1)))) (ze jo (Ar 7919) (zc 1))) (Ar 999983)) (zc 2)))
noncomputable def jT:Al:=ym 3 3 (RI)
def zaf (T:Txt w K mg):a7 P w K mg base "_law_pick" 1 jT:=T.f__law_pick.ok (k:=0) RH λ_ _ _ _ _ _ _ hr=>by
 exact "x E N N M gwu N G n M n gwu n J gwu n J n T"
theorem zc0:aq ["_law_cell", "_law_word_here", "_law_k"] ["_law_cell"] (yc FW):=by exact "9"
noncomputable def RJ:Aj :=
  zw (zG 1 (As "")) (zw (yU (bo (zd (ze zT (Ar 1) (ze zY (zc 0) (Ar 8))) zm)) (gN 2)
  (zw (zG 1 (ze zT (zc 1) (ze zt (As "abcdefghijklmnopqrstuvwxyz") (ze zY (zc 0) (Ar 26)))))
  (zG 0 (ze yG (zc 0) (Ar 5))))) (zV (zc 1)))
noncomputable def ia:Al:=ym 1 3 (RJ)
def zcl (T:Txt w K mg):a7 P w K mg base "_law_word" 1 ia:=T.f__law_word.ok (k:=0) zc0 λ_ _ _ _ _ _ _ hr=>by
 exact "u j1 D czc0.nd u p z l M n N G n o 3zc0.nd u j1 M J f i D N G n h czc0.nd x j0 gjy G n czc0.nd x E J"
theorem zf1:aq ["_law_cell", "_law_some"] ["_law_cell"] (yc FX):=by exact "9"
noncomputable def GB:Aj :=
  zw (zZ (mB (ze yi (ze zY (zc 0) (Ar 7)) (Ar 0)))
  (zV (ze zY (zc 1) (Ar 10)))
  ye) (zw (zZ (mB (ze yi (ze zY (zc 0) (Ar 7)) (Ar 1)))
  (zV (ze wa (ze zY (zc 1) (Ar 1999999999999999999)) (Ar 999999999999999999)))
  ye) (zw (zZ (mB (ze yi (ze zY (zc 0) (Ar 7)) (Ar 2)))
  (zV (zu ia (zd (zc 1) zm)))
  ye) (zw (zZ (mB (ze yi (ze zY (zc 0) (Ar 7)) (Ar 3)))
  (zV (zE zm))
  ye) (zw (zZ (mB (ze yi (ze zY (zc 0) (Ar 7)) (Ar 4)))
  (zV (zE (zd (ze zY (zc 1) (Ar 7)) (zd (zE (zd (zu ia (zd (zc 1) zm)) (zd (ze wa (Ar 0) (ze zY (zc 1) (Ar 5))) zm))) (zd (zE zm) zm)))))
  ye) (zw (zZ (mB (ze yi (ze zY (zc 0) (Ar 7)) (Ar 5)))
  (zV (qI [((zu ia (zd (zc 1) zm)),(ze zY (zc 1) (Ar 5))),((zu ia (zd (ze zT (ze yG (zc 1) (Ar 3)) (Ar 1)) zm)),(zE (zd (ze zY (zc 1) (Ar 3)) (zd (zu ia (zd (ze yG (zc 1) (Ar 9)) zm)) zm))))]))
  ye) (zV (ze zY (zc 1) (Ar 2))))))))
noncomputable def GC:Aj :=
  zw (zG 0 (ze zY (zc 0) (ze gm (Ar 10) (Ar 24)))) (zw (zG 1 (ze yG (zc 0) (Ar 7))) (GB))
noncomputable def AX:Al:=ym 1 2 (GC)
def zsp (T:Txt w K mg):a7 P w K mg base "_law_value" 2 AX:=T.f__law_value.ok (k:=1) zf1 λ_ _ _ _ _ _ _ hr=>by
 exact "u j0 N G gzbo n n czf1.nd u j1 gjy G n czf1.nd u L W N G n n x E N J n K u L W N G n n x E gzaO N J n n K u L W N G n n x E ezcl l J o K u L W N G n n x E C o K u L W N G n n x E C l N J n l C l ezcl l J o l gzaO n N J n o l C o o K u L W N G n n x E"
 refine QT ?_ (by simp) (by decide)
 exact "mzi8 ezcl l J o N J n mzi8 ezcl l M gjy J n n o C l N J n l ezcl l gjy J n o o czrI K x E N J n"
theorem zj0:aq ["_law_cell", "_law_turn_here", "_law_scope", "_law_k"] ["_law_cell", "_law_turn_here", "_law_scope"] (yc FY):=by exact "9"
noncomputable def GD:Aj :=
  zw (zZ (mB (ze wR (zc 3) (zu yH (zd (zc 2) zm))))
  (zV (zE (zd (As "of") (zd (ze zt (zc 2) (zc 3)) zm))))
  ye) (zV (zE (zd (As "is") (zd (zu AX (zd (ze zT (ze jo (ze zY (zc 0) (ze gm (Ar 10) (Ar 24))) (ze zT (zc 1) (Ar 1))) (zc 1)) zm)) zm))))
noncomputable def GG:Aj :=
  zw (zG 3 (zu jT (zd (zc 0) (zd (zc 1) (zd (ze zT (zu yH (zd (zc 2) zm)) (Ar 2)) zm))))) (GD)
noncomputable def oO:Al:=ym 3 4 (GG)
def zf3 (T:Txt w K mg):a7 P w K mg base "_law_atom" 3 oO:=T.f__law_atom.ok (k:=2) zj0 λ_ _ _ _ _ _ _ hr=>by
 exact "u j3 ezaf l G l J l M q l T o n o czj0.nd u L yzb9 U q l T o x E C l D l f i T U h o K x E C l D l ezsp l M gwu N G gzbo n n M J n J o o"
theorem RK:aq ["_law_cell", "_law_many", "_law_scope"] ["_law_cell", "_law_many", "_law_scope"] (yc zfL):=by exact "9"
noncomputable def RL:Aj :=
  (zV (zu jM (zd (jD (bo (zd (zc 1) zm)) (zu oO (zd (zc 1) (zd (ze zT (Ar 4) (zc 0)) (zd (zc 3) zm))))) zm)))
noncomputable def kN:Al:=ym 3 3 (RL)
theorem zcn (T:Txt w K mg):a7 P w K mg base "_law_atoms" 4 kN:=T.f__law_atoms.ok (k:=3) RK λ_ _ _ _ _ _ _ hr=>by
 exact "x E t l"
 refine qw (N:=["_law_cell", "_law_many", "_law_scope"]) rfl (by exact "!zfL") rfl (by decide +kernel) ?_ ?_
 exact "z l J o A vzf3 l J l M n G l U o o"
theorem zd8:aq ["_law_k", "_law_some"] ["_law_k"] (yc FZ):=by exact "9"
noncomputable def GH:Aj :=
  zw (zZ (mB (ze wR (zc 0) (zu yH (zd (zc 1) zm))))
  (zV (ze zt (zc 1) (zc 0)))
  ye) (zV (ze zt (zc 1) (ze zY (zc 0) (Ar 5))))
noncomputable def GI:Aj :=
  zw (zG 1 (jb (zd (zE (zd (As "down") (zd (Ar 1) zm))) (zd (zE (zd (As "head") (zd (Ar 1) zm))) (zd (zE (zd (As "rest") (zd (Ar 1) zm))) (zd (zE (zd (As "item") (zd (Ar 2) zm))) (zd (zE (zd (As "field") (zd (Ar 2) zm))) (zd (zE (zd (As "add") (zd (Ar 2) zm))) (zd (zE (zd (As "sub") (zd (Ar 2) zm))) (zd (zE (zd (As "mul") (zd (Ar 2) zm))) zm)))))))))) (zw (zG 1 (ze zT (zc 1) (jb (zd (zE (zd (As "div") (zd (Ar 2) zm))) (zd (zE (zd (As "rem") (zd (Ar 2) zm))) (zd (zE (zd (As "less") (zd (Ar 2) zm))) (zd (zE (zd (As "same") (zd (Ar 2) zm))) (zd (zE (zd (As "kind") (zd (Ar 1) zm))) (zd (zE (zd (As "front") (zd (Ar 2) zm))) (zd (zE (zd (As "many") (zd (Ar 1) zm))) zm)))))))))) (zw (zG 1 (ze zT (zc 1) (jb (zd (zE (zd (As "put") (zd (Ar 3) zm))) (zd (zE (zd (As "set") (zd (Ar 3) zm))) zm))))) (GH)))
noncomputable def AY:Al:=ym 1 2 (GI)
def zss (T:Txt w K mg):a7 P w K mg base "_law_op" 1 AY:=T.f__law_op.ok (k:=0) zd8 λ_ _ _ _ _ _ _ hr=>by
 exact "u j1 5 l C l D l n o l C l D l n o l C l D l n o l C l D l n o l C l D l n o l C l D l n o l C l D l n o l C l D l n o o czd8.nd u j1 M J 5 l C l D l n o l C l D l n o l C l D l n o l C l D l n o l C l D l n o l C l D l n o l C l D l n o o czd8.nd u j1 M J 5 l C l D l n o l C l D l n o o czd8.nd u L yzb9 G q l J o x E f i J G h K x E f i J N G n h"
theorem zf5:aq ["_law_cell", "_law_name_here", "_law_scope", "_law_heads", "_law_head", "_law_op_here"] ["_law_cell", "_law_name_here", "_law_scope", "_law_heads"] (yc F3):=by exact "9"
noncomputable def RM:Aj :=
  zw (zZ (mB (ze yi (zu jT (zd (zc 0) (zd (Ar 2) (zd (Ar 5) zm)))) (Ar 0)))
  (zw (zG 4 (ze zt (zc 3) (zu jT (zd (zc 0) (zd (Ar 3) (zd (zu yH (zd (zc 3) zm)) zm))))))
  (zV (zE (zd (As "call") (zd (zc 1) (zd (ze zt (zc 4) (Ar 0)) (zd (zu kN (zd (zc 0) (zd (ze zt (zc 4) (Ar 1)) (zd (zc 2) zm)))) zm)))))))
  ye) (zw (zG 5 (zu AY (zd (zu jT (zd (zc 0) (zd (Ar 1) (zd (Ar 29) zm)))) zm))) (zV (zE (zd (As "let") (zd (zc 1) (zd (ze zt (zc 5) (Ar 0)) (zd (zu kN (zd (zc 0) (zd (ze zt (zc 5) (Ar 1)) (zd (zc 2) zm)))) zm)))))))
noncomputable def lL:Al:=ym 4 6 (RM)
def zf6 (T:Txt w K mg):a7 P w K mg base "_law_step" 5 lL:=T.f__law_step.ok (k:=4) zf5 λ_ _ _ _ _ _ _ hr=>by
 exact "u L W ezaf l G l n l n o n u j4 f i U ezaf l G l n l q l U o o h czf5.nd x E C l D l J l f i b4 n h l ezcn l G l f i b4 n h l T o o K u j5 ezss l ezaf l G l n l n o o czf5.nd x E C l D l J l f i b5 n h l ezcn l G l f i b5 n h l T o o"
theorem zbT:aq ["_law_script", "_law_cell", "_law_heads", "_law_scope", "_law_steps", "_law_k", "_law_name_here"] ["_law_script"] (yc F5):=by exact "9"
noncomputable def RN:Aj :=
  zw (zG 1 (ze zY (zu jp (zd (zc 0) (zd (Ar 6) zm))) (ze gm (Ar 10) (Ar 9)))) (zw (zG 2 (jb (zd (zE (zd (As "long") (zd (Ar 2) zm))) zm))) (zw (zG 3 (jb (zd (As "x") (zd (As "y") zm)))) (zw (zG 4 (jb zm)) (zw (yU (bo (zd (ze zY (zc 1) (Ar 60)) zm)) (gN 5)
  (zw (zG 6 (ze zT (As "n") (zu mJ (zd (ze zT (ze zY (ze yG (zc 1) (Ar 60)) (Ar 100000)) (zc 5)) zm))))
  (zw (yT (yN yR (zc 4) (zu lL (zd (ze zT (zu jp (zd (zc 0) (zd (ze zT (Ar 7) (ze zY (zc 5) (Ar 50))) zm))) (zc 5)) (zd (zc 6) (zd (zc 3) (zd (zc 2) zm)))))))
  (yT (yN yR (zc 3) (zc 6)))))) (zV (zE (zd (zE (zd (As "long") (zd (zE (zd (As "x") (zd (As "y") zm))) (zd (zE (zd (zu jM (zd (zc 4) zm)) (zd (zE (zd (As "go") (zd (As "long") (zd (zu kN (zd (zc 1) (zd (Ar 2) (zd (zc 3) zm)))) zm)))) zm))) zm)))) zm)))))))
noncomputable def AZ:Al:=ym 1 7 (RN)
def zsv (T:Txt w K mg):a7 P w K mg base "_law_long" 6 AZ:=T.f__law_long.ok (k:=5) zbT λ_ _ _ _ _ _ _ hr=>by
 exact "u j1 N ewN l G l n o gzbo n n czbT.nd u j2 5 l C l D l n o o czbT.nd u j3 5 l D l D o czbT.nd u j4 5 o czbT.nd u p z l N J n o 4zbT.nd u j6 M D"
 refine wc EJ T.b_str tD ?_
 exact "l M N gjy J n n b5 o czbT.nd u dwt awy b4 ezf6 l M ewN l G l M n N b5 n o b5 l b6 l U l T o x dwt awy U b6 x E C l C l D l C l D l D o l C l t l b4 o l C l D l D l ezcn l J l n l U o o o o o"
theorem zd9:aq ["_law_seed", "_law_k", "_law_some", "_law_signs", "_law_place"] ["_law_seed", "_law_k"] (yc F6):=by exact "9"
noncomputable def GJ:Aj :=
  zw (zZ (mB (ze yi (ze zY (zc 0) (Ar 4)) (Ar 2)))
  (zV (ze zT (As "n") (zu mJ (zd (ze zT (ze zY (ze yG (zc 0) (Ar 4)) (Ar 900000)) (zc 1)) zm))))
  ye) (zV (ze zt (ze zT (zc 2) (jb (tI ["kind", "same", "put", "field", "many"]))) (ze zY (ze zT (ze yG (zc 0) (Ar 4)) (zc 1)) (Ar 20))))
noncomputable def A3:Aj :=
  zw (zZ (mB (ze yi (ze zY (zc 0) (Ar 4)) (Ar 1)))
  (zw (zG 4 (ze zY (ze yG (zc 0) (Ar 4)) (Ar 7)))
  (zV (ze zT (ze zT (ze zT (As "u") (ze jo (As "7") (zc 4))) (ze zt (zc 3) (ze zY (ze zT (ze yG (zc 0) (Ar 28)) (zc 1)) (Ar 36)))) (ze jo (As "e") (ze wa (Ar 6) (zc 4))))))
  ye) (GJ)
noncomputable def A4:Aj :=
  zw (zZ (mB (ze yi (ze zY (zc 0) (Ar 4)) (Ar 0)))
  (zV (ze zt (zc 3) (ze zY (ze zT (ze yG (zc 0) (Ar 4)) (zc 1)) (Ar 26))))
  ye) (A3)
noncomputable def GK:Aj :=
  zw (zG 2 (jb (tI ["of", "is", "let", "call", "go", "if", "give", "fail", "else", "end", "fun", "add", "head", "rest", "item"]))) (zw (zG 3 (As "abcdefghijklmnopqrstuvwxyz0123456789")) (A4))
noncomputable def wB:Al:=ym 2 5 (GK)
theorem zco (T:Txt w K mg):a7 P w K mg base "_law_name" 1 wB:=T.f__law_name.ok (k:=0) zd9 λ_ _ _ _ _ _ _ hr=>by
 exact "u j2 5 dzfx"
 decide +kernel
 exact "czd9.nd u j3 D czd9.nd u L W N G n n x E f i U N M gjy G n J n h K u L W N G n n u j4 N gjy G n n czd9.nd x E M M M D gwu D b4 f i U N M gjy G n J n h gwu D gzaO n b4 K u L W N G n n x E M D"
 refine wc EJ T.b_str tD ?_
 exact "l M N gjy G n n J o K x E f i M T 5 dzfx"
 decide +kernel
 exact "N M gjy G n J n h"
theorem zc1:aq ["_law_cell", "_law_aim", "_law_step_here", "_law_atoms_here"] ["_law_cell", "_law_aim"] (yc F7):=by exact "9"
noncomputable def RO:Aj :=
  zw (zG 2 (zE (zd (As "let") (zd (As "z") (zd (As "down") (zd (zE (zd (zE (zd (As "of") (zd (As "p") zm))) zm)) zm)))))) (zw (zZ (mB (ze yi (ze zY (zc 0) (Ar 7)) (Ar 3)))
  (zG 2 (zE (zd (As "let") (zd (As "z") (zd (As "add") (zd (zE (zd (zE (zd (As "of") (zd (As "p") zm))) (zd (zE (zd (As "is") (zd (Ar 1) zm))) zm))) zm))))))
  ye) (zw (zG 3 (jb (zd (zE (zd (As "of") (zd (As "z") zm))) (zd (zE (zd (As "of") (zd (As "q") zm))) zm)))) (zw (zZ (mB (ze yi (ze zY (ze yG (zc 0) (Ar 7)) (Ar 5)) (Ar 2)))
  (mP (zc 3) (Ar 1) (zE (zd (As "is") (zd (ze zY (ze yG (zc 0) (Ar 35)) (Ar 9)) zm))))
  ye) (zw (zZ (mB (ze yi (ze zY (ze yG (zc 0) (Ar 35)) (Ar 3)) (Ar 1)))
  (zG 3 (qz (zc 3) (bC (wn qj (Ar 1)))))
  ye) (zV (zE (zd (As "if") (zd (zE (zd (As "of") (zd (As "p") zm))) (zd (zE (zd (zE (zd (zc 2) zm)) (zd (zE (zd (As "go") (zd (zc 1) (zd (zu jM (zd (zc 3) zm)) zm)))) zm))) (zd (zE (zd (zE zm) (zd (zE (zd (As "give") (zd (zE (zd (As "of") (zd (As "q") zm))) zm))) zm))) zm))))))))))
noncomputable def t7:Al:=ym 2 4 (RO)
def zsx (T:Txt w K mg):a7 P w K mg base "_law_turn" 1 t7:=T.f__law_turn.ok (k:=0) zc1 λ_ _ _ _ _ _ _ hr=>by
 exact "u j2 C l D l D l D l C l C l D l D o o o czc1.nd u L W N G n n x j2 C l D l D l D l C l C l D l D o l C l D l n o o o czc1.nd K u j3 5 l C l D l D o l C l D l D o o czc1.nd u L W N gjy G n n n x mzjb U n C l D l N gjy G n n o K u L W N gjy G n n n x j3 azq9 U dzaQ"
 refine NZ N9 ?_
 exact "n czc1.nd K x E C l D l C l D l D o l C l C l T o l C l D l J l t l U o o o l C l C o l C l D l C l D l D o o o o"
theorem zau:aq ["_law_script", "_law_cell", "_law_many", "_law_seed", "_law_program_here", "_law_k", "_law_here", "_law_aim", "_law_name_here"] ["_law_script"] (yc F8):=by exact "9"
noncomputable def RP:Aj :=
  zw (zG 1 (ze zY (zu jp (zd (zc 0) (zd (Ar 6) zm))) (ze gm (Ar 10) (Ar 9)))) (zw (zG 2 (ze zT (Ar 1) (ze zY (zc 1) (Ar 12)))) (zw (zZ (mB (ze yi (ze zY (ze yG (zc 1) (Ar 12)) (Ar 8)) (Ar 1)))
  (zG 2 (ze zT (Ar 1) (ze zY (ze yG (zc 1) (Ar 96)) (Ar 200))))
  ye) (zw (zG 3 (ze zT (ze jo (Ar 4) (ze zY (ze yG (zc 1) (Ar 17)) (Ar 900000))) (Ar 2))) (zw (zG 4 (jb zm)) (zw (yU (bo (zd (zc 2) zm)) (gN 5)
  (zw (zG 6 (zu jp (zd (zc 0) (zd (ze zT (Ar 7) (ze zY (zc 5) (Ar 50))) zm))))
  (zw (zG 7 (ze zT (zc 5) (Ar 1)))
  (zw (zZ (mB (ze wT (zc 5) (ze wa (zc 2) (Ar 1))))
  (zG 7 (ze zY (zc 6) (zc 2)))
  ye)
  (zw (zG 8 (zu wB (zd (zc 3) (zd (zc 5) zm))))
  (zZ (mB (ze iQ (zc 2) (Ar 40)))
  (yT (yN yR (zc 4) (zE (zd (zc 8) (zd (zE zm) (zd (zE (zd (zE zm) (zd (zE (zd (As "go") (zd (zu wB (zd (zc 3) (zd (zc 7) zm))) (zd (zE zm) zm)))) zm))) zm))))))
  (yT (yN yR (zc 4) (zE (zd (zc 8) (zd (zE (zd (As "p") (zd (As "q") zm))) (zd (zE (zd (zE zm) (zd (zu t7 (zd (zc 6) (zd (zu wB (zd (zc 3) (zd (zc 7) zm))) zm))) zm))) zm)))))))))))) (zV (zu jM (zd (zc 4) zm))))))))
noncomputable def A5:Al:=ym 1 9 (RP)
def zsz (T:Txt w K mg):a7 P w K mg base "_law_ring" 2 A5:=T.f__law_ring.ok (k:=1) zau λ_ _ _ _ _ _ _ hr=>by
 exact "u j1 N ewN l G l n o gzbo n n Z u j2 M n N J n Z u L W N gjy J n n n x j2 M n N gjy J n n Z K u j3 M gwu n N gjy J n n n Z u j4 5 o Z u p z l T o 4zau.nd u j6 ewN l G l M n N b5 n o Z u j7 M b5 n Z u L kzfz b5 gzaO T n x j7 N b6 T Z K u j8 ezco l U l b5 o Z x L yzdH T n x dwt awy b4 C l b8 l C o l C l C o l C l D l ezco l U l b7 o l C o o o o x dwt awy b4 C l b8 l C l D l D o l C l C o l ezsx l b6 l ezco l U l b7 o o o o x E t l b4 o"
theorem AO:aq ["_law_script", "_law_cell", "_law_names", "_law_block_here", "_law_k", "_law_here", "_law_step_here", "_law_other", "_law_test"] ["_law_script"] (yc F9):=by exact "9"
noncomputable def RQ:Aj :=
  zw (zG 1 (ze zY (zu jp (zd (zc 0) (zd (Ar 6) zm))) (ze gm (Ar 10) (Ar 9)))) (zw (zG 2 (jb (tI ["p", "q", "s1", "s2", "s3", "s4", "s5", "s6", "s7", "s8"]))) (zw (zG 3 (zE (zd (zE zm) (zd (zE (zd (As "go") (zd (As "deep") (zd (zu kN (zd (zc 1) (zd (Ar 2) (zd (zc 2) zm)))) zm)))) zm)))) (zw (yU (bo (zd (Ar 8) zm)) (gN 4)
  (zw (zG 5 (zu jp (zd (zc 0) (zd (ze zT (Ar 7) (zc 4)) zm))))
  (zw (zG 6 (zu lL (zd (zc 5) (zd (ze zt (zc 2) (ze wa (Ar 9) (zc 4))) (zd (wb (zc 2) bU (bC (ze wa (Ar 9) (zc 4)))) (zd (jb (zd (zE (zd (As "deep") (zd (Ar 2) zm))) zm)) zm))))))
  (zw (zG 7 (zE (zd (zE zm) (zd (zE (zd (As "go") (zd (As "deep") (zd (zu kN (zd (ze yG (zc 5) (Ar 7)) (zd (Ar 2) (zd (wb (zc 2) bU (bC (ze wa (Ar 10) (zc 4)))) zm)))) zm)))) zm))))
  (zw (zG 8 (zE (zd (As "of") (zd (ze zt (zc 2) (zu jT (zd (zc 5) (zd (Ar 15) (zd (ze wa (Ar 10) (zc 4)) zm))))) zm))))
  (zZ (mB (ze yi (ze zY (zc 5) (Ar 2)) (Ar 0)))
  (zG 3 (zE (zd (zE (zd (zc 6) zm)) (zd (zE (zd (As "if") (zd (zc 8) (zd (zc 3) (zd (zc 7) zm))))) zm))))
  (zG 3 (zE (zd (zE (zd (zc 6) zm)) (zd (zE (zd (As "if") (zd (zc 8) (zd (zc 7) (zd (zc 3) zm))))) zm)))))))))) (zV (zE (zd (zE (zd (As "deep") (zd (zE (zd (As "p") (zd (As "q") zm))) (zd (zc 3) zm)))) zm))))))
noncomputable def A6:Al:=ym 1 9 (RQ)
theorem zsB (T:Txt w K mg):a7 P w K mg base "_law_deep" 6 A6:=T.f__law_deep.ok (k:=5) AO λ_ _ _ _ _ _ _ hr=>by
 exact "u j1 N ewN l G l n o gzbo n n 0 u j2 5 dzfx"
 decide +kernel
 exact "0 u j3 C l C o l C l D l D l ezcn l J l n l T o o o 0 u p z l n o"
 exact (we 4 AO.nd)
 exact "u j5 ewN l G l M n b4 o 0 u j6 ezf6 l b5 l f i T gzaO n b4 h l mzbb T czba dzaQ gzaO n b4 l 5 l C l D l n o o o 0 u j7 C l C o l C l D l D l ezcn l gjy b5 n l n l mzbb T czba dzaQ gzaO n b4 o o o 0 u j8 C l D l f i T ezaf l b5 l n l gzaO n b4 o h o 0 x L W N b5 n n x j3 C l C l b6 o l C l D l b8 l U l b7 o o 0 x j3 C l C l b6 o l C l D l b8 l b7 l U o o 0 x E C l C l D l C l D l D o l U o o"
theorem zj7:aq ["_law_cell", "_law_way", "_law_scope", "_law_heads", "_law_head"] ["_law_cell", "_law_way", "_law_scope", "_law_heads"] (yc F_):=by exact "9"
noncomputable def RR:Aj :=
  zw (zZ (mB (ze yi (zc 1) (Ar 3)))
  (zV (zE (zd (As "give") (zd (zu oO (zd (zc 0) (zd (Ar 13) (zd (zc 2) zm)))) zm))))
  ye) (zw (zZ (mB (ze yi (zc 1) (Ar 4)))
  (zV (zE (zd (As "fail") (zd (zu ia (zd (ze zY (zc 0) (ze gm (Ar 10) (Ar 9))) zm)) zm))))
  ye) (zw (zG 4 (ze zt (zc 3) (zu jT (zd (zc 0) (zd (Ar 14) (zd (zu yH (zd (zc 3) zm)) zm)))))) (zV (zE (zd (As "go") (zd (ze zt (zc 4) (Ar 0)) (zd (zu kN (zd (zc 0) (zd (ze zt (zc 4) (Ar 1)) (zd (zc 2) zm)))) zm)))))))
noncomputable def A7:Al:=ym 4 5 (RR)
def zsD (T:Txt w K mg):a7 P w K mg base "_law_end" 5 A7:=T.f__law_end.ok (k:=4) zj7 λ_ _ _ _ _ _ _ hr=>by
 exact "u L W J n x E C l D l ezf3 l G l n l T o o K u L W J n x E C l D l ezcl l N G gzbo n n o o K u j4 f i U ezaf l G l n l q l U o o h czj7.nd x E C l D l f i b4 n h l ezcn l G l f i b4 n h l T o o"
theorem tZ:aq ["_law_script", "_law_f", "_law_b", "_law_scope", "_law_heads", "_law_seed", "_law_at_here", "_law_cell", "_law_steps", "_law_j", "_law_name_here", "_law_way", "_law_one", "_law_other"] ["_law_script", "_law_f", "_law_b", "_law_scope", "_law_heads", "_law_seed"] (yc Ga):=by exact "9"
noncomputable def GL (mr:Al):Aj :=
  zw (zZ (wI (mB (ze iQ (zc 11) (Ar 4))) (mB (ze wR (zc 2) (Ar 4))))
  (zw (zG 12 (zu mr (zd (zc 0) (zd (zc 1) (zd (ze jo (Ar 2) (zc 2)) (zd (zc 3) (zd (zc 4) (zd (zc 5) zm))))))))
  (zw (zG 13 (zu mr (zd (zc 0) (zd (zc 1) (zd (ze zT (ze jo (Ar 2) (zc 2)) (Ar 1)) (zd (zc 3) (zd (zc 4) (zd (zc 5) zm))))))))
  (zV (zE (zd (zu jM (zd (zc 8) zm)) (zd (zE (zd (As "if") (zd (zu oO (zd (zc 7) (zd (Ar 13) (zd (zc 3) zm)))) (zd (zc 12) (zd (zc 13) zm))))) zm))))))
  ye) (zV (zE (zd (zu jM (zd (zc 8) zm)) (zd (zu A7 (zd (zc 7) (zd (zc 11) (zd (zc 3) (zd (zc 4) zm))))) zm))))
noncomputable def GN (mr:Al):Aj :=
  zw (zG 6 (ze zT (ze zT (Ar 6) (ze jo (ze wa (zc 2) (Ar 1)) (Ar 9))) (ze jo (zc 1) (Ar 3)))) (zw (zG 7 (zu jp (zd (zc 0) (zd (ze zT (zc 6) (Ar 2)) zm)))) (zw (zG 3 (zu gZ (zd (zc 3) zm))) (zw (zG 8 (jb zm)) (zw (yU (bo (zd (zu jT (zd (zc 7) (zd (Ar 11) (zd (Ar 3) zm)))) zm)) (gN 9)
  (zw (zG 10 (zu wB (zd (zc 5) (zd (ze zT (ze zT (Ar 4) (ze jo (Ar 2) (zc 2))) (zc 9)) zm))))
  (zw (yT (yN yR (zc 8) (zu lL (zd (zu jp (zd (zc 0) (zd (ze zT (zc 6) (zc 9)) zm))) (zd (zc 10) (zd (zc 3) (zd (zc 4) zm)))))))
  (yT (yN yR (zc 3) (zc 10)))))) (zw (zG 11 (zu jT (zd (zc 7) (zd (Ar 12) (zd (Ar 7) zm))))) (GL mr))))))
noncomputable def A8 (mr:Al):Al:=ym 6 14 (GN mr)
theorem RS (T:Txt w K mg) {k:Nat} (hk:5<=k) {mr:Al} (Gz:a7 P w K mg base "_law_block" k mr):a7 P w K mg base "_law_block" (k+1) (A8 mr):=T.f__law_block.ok (k:=k+0) tZ λ_ _ _ _ _ _ _ hr=>by
 exact "u j6 M M n gwu gzaO T n n gwu J n 6 u j7 wwN l G l M b6 n o 6 u j3 8 l U o 6 u j8 5 o 6 u p z l wzaf l b7 l n l n o o"
 exact (we 9 tZ.nd)
 exact "u j10 wzco l b5 l M M n gwu n T b9 o 6 u dwt awy b8 wzf6 l wwN l G l M b6 b9 o l b10 l U l b4 o x dwt awy U b10 u j11 wzaf l b7 l n l n o 6 u L dzac azb8 yzdH b11 n dzcI yzb9 T n u j12 H l G l J l gwu n T l U l b4 l b5 o 6 u j13 H l G l J l M gwu n T n l U l b4 l b5 o 6 x E C l t l b8 o l C l D l wzf3 l b7 l n l U o l b12 l b13 o o K x E C l t l b8 o l wzsD l b7 l b11 l U l b4 o o"
noncomputable def kO:Nat->Al
 | 0=>ym 6 14 xQ
 | n+1=>A8 (kO n)
theorem GO (T:Txt w K mg):∀n,a7 P w K mg base "_law_block" (5+1+1*n) (kO n)
 | 0=>T.f__law_block.ok (k:=5) tZ λf aV A outer s H E hr=>EX
 | n+1=>(RS T (by omega) (GO T n)).mono (by omega)
theorem zbx:aq ["_law_script", "_law_cell", "_law_seed", "_law_heads", "_law_program_here", "_law_f", "_law_head", "_law_own", "_law_params"] ["_law_script"] (yc zd5):=by exact "9"
noncomputable def RT:Aj :=
  zw (zG 1 (ze zY (zu jp (zd (zc 0) (zd (Ar 0) zm))) (ze gm (Ar 10) (Ar 9)))) (zw (zG 2 (ze zY (zu jp (zd (zc 0) (zd (Ar 1) zm))) (ze gm (Ar 10) (Ar 9)))) (zw (zG 3 (jD (bo (zd (ze zT (Ar 1) (ze zY (zc 1) (Ar 3))) zm)) (zE (zd (zu wB (zd (ze yG (zc 2) (Ar 12)) (zd (zc 0) zm))) (zd (ze zY (zu jp (zd (zc 1) (zd (ze zT (Ar 2) (zc 0)) zm))) (Ar 4)) zm))))) (zw (zZ (mB (ze yi (ze zY (ze yG (zc 1) (Ar 3)) (Ar 4)) (Ar 1)))
  (mP (zc 3) (Ar 0) (zE (zd (ze zt (ze zt (zc 3) (Ar 0)) (Ar 0)) (zd (ze zY (zu jp (zd (zc 0) (zd (Ar 2) zm))) (Ar 7)) zm))))
  ye) (zw (zG 4 (jb zm)) (zw (oE (zd (zc 3) zm) (g2 5 6)
  (zw (zG 7 (ze zT (zc 2) (ze jo (ze jo (Ar 4) (zc 5)) (ze zY (ze yG (zc 1) (Ar 12)) (Ar 2)))))
  (zw (zG 8 (jD (bo (zd (ze zt (zc 6) (Ar 1)) zm)) (zu wB (zd (zc 8) (zd (zc 0) zm)))))
  (yT (yN yR (zc 4) (zE (zd (ze zt (zc 6) (Ar 0)) (zd (zu jM (zd (zc 8) zm)) (zd (zu (kO 6) (zd (zc 0) (zd (zc 5) (zd (Ar 1) (zd (zc 8) (zd (zc 3) (zd (zc 7) zm))))))) zm))))))))) (zV (zu jM (zd (zc 4) zm))))))))
noncomputable def A9:Al:=ym 1 9 (RT)
theorem zsG (T:Txt w K mg):a7 P w K mg base "_law_small" 13 A9:=T.f__law_small.ok (k:=12) zbx λ_ _ _ _ _ _ _ hr=>by
 exact "u j1 N ewN l G l n o gzbo n n czbx.nd u j2 N ewN l G l n o gzbo n n czbx.nd u"
 refine Fu 3 (M:=["_law_script", "_law_cell", "_law_seed", "_law_heads", "_law_program_here", "~_law_f", "_law_head", "_law_own", "_law_params"]) rfl (by exact "!zd5") (by exact ⟨rfl,by show ∀p∈List.zip (["_law_script", "_law_cell", "_law_seed", "_law_heads", "_law_program_here", "~_law_f", "_law_head", "_law_own", "_law_params"]:Ad) (["_law_script", "_law_cell", "_law_seed", "_law_heads", "_law_program_here", "_law_f", "_law_head", "_law_own", "_law_params"]:Ad),p.1=p.2\/p.1∉(_:Ad);decide +kernel⟩) (by decide +kernel) ?_ ?_ zbx.nd rfl (by exact "%") (by exact "&") (by rfl)
 exact "z l M n N J n o A C l vzco l gjy T n l G o l N vwN l J l M n G o n o u L W N gjy J n n n x mzjb U n C l f i f i U n h n h l N ewN l G l n o n o K u j4 5 o czbx.nd u FziD l U o"
 exact (qo 5 6 rfl zbx.nd)
 exact "u j7 M T gwu gwu n b5 N gjy J n n czbx.nd u"
 refine Fv 8 (N:=["_law_script", "_law_cell", "_law_seed", "_law_heads", "_law_program_here", "_law_f", "_law_head", "_law_own", "_law_params"]) rfl (by exact "!zd5") rfl (by decide +kernel) ?_ ?_ zbx.nd rfl (by exact "%") (by exact "&") (by rfl)
 exact "z l f i b6 n h o A vzco l b8 l G o x dwt awy b4 C l f i b6 n h l t l b8 o l"
 refine zO (GO T 6) (hr.mono (by decide)) zQ ?_
 exact "l G l b5 l n l b8 l U l b7 o o x E t l b4 o"
theorem zkb:aq ["_law_script", "_law_way"] ["_law_script"] (yc Gb):=by exact "9"
noncomputable def GP:Aj :=
  zw (zZ (mB (ze yi (zc 1) (Ar 6)))
  (zV (zu AZ (zd (zc 0) zm)))
  ye) (zw (zZ (mB (ze yi (zc 1) (Ar 7)))
  (zV (zu A5 (zd (zc 0) zm)))
  ye) (zw (zZ (mB (ze yi (zc 1) (Ar 5)))
  (zV (zu A6 (zd (zc 0) zm)))
  ye) (zV (zu A9 (zd (zc 0) zm)))))
noncomputable def GQ:Aj :=
  zw (zG 1 (ze zY (zu jp (zd (zc 0) (zd (Ar 5) zm))) (Ar 8))) (GP)
noncomputable def A_:Al:=ym 1 2 (GQ)
def zsH (T:Txt w K mg):a7 P w K mg base "_law_program" 14 A_:=T.f__law_program.ok (k:=13) zkb λ_ _ _ _ _ _ _ hr=>by
 exact "u j1 N ewN l G l n o n czkb.nd u L W J n x E ezsv l G o K u L W J n x E ezsz l G o K u L W J n x E ezsB l G o K x E ezsG l G o"
theorem zgg:aq ["program", "functions", "function"] ["program"] (yc Ge):=by exact "9"
noncomputable def RU:Aj :=
  zw (zG 1 qt) (zw (yU (yQ (zc 0)) (gN 2)
  (iT (zc 1) (ze zt (zc 2) (Ar 0)) (zc 2))) (zV (zc 1)))
noncomputable def t_:Al:=ym 1 3 (RU)
def zke (T:Txt w K mg):a7 P w K mg base "functions_by_name" 1 t_:=T.f_functions_by_name.ok (k:=0) zgg λ_ _ _ _ _ _ _ hr=>by
 exact "u j1 czfo czgg.nd u p dwg G 3zgg.nd x Qzfp V J f i T n h T"
 rfl
 exact "x E J"
theorem zgh:aq ["names", "marks", "name"] ["names"] (yc Gf):=by exact "9"
noncomputable def RV:Aj :=
  zw (zG 1 qt) (zw (yU (yQ (zc 0)) (gN 2)
  (mS (zc 1) (zc 2) (mC (.bl true)))) (zV (zc 1)))
noncomputable def gn:Al:=ym 1 3 (RV)
def zc2 (T:Txt w K mg):a7 P w K mg base "marked" 1 gn:=T.f_marked.ok (k:=0) zgh λ_ _ _ _ _ _ _ hr=>by
 exact "u j1 czfo czgh.nd u p dwg G 3zgh.nd x Qzjm V J T czal"
 rfl
 exact "x E J"
theorem RW:aq ["bits", "place"] ["bits", "place"] (yc Gg):=by exact "9"
noncomputable def RX:Aj :=
  (zV (ze yi (ze xX (ze xY (zc 0) (zc 1)) (Ar 1)) (Ar 1)))
noncomputable def ua:Al:=ym 2 2 (RX)
def zsM (T:Txt w K mg):a7 P w K mg base "is_later_at" 1 ua:=T.f_is_later_at.ok (k:=0) RW λ_ _ _ _ _ _ _ hr=>by
 exact "x E RyP gzqW gzqX G J n n"
theorem RY:aq ["function", "bits"] ["function", "bits"] (yc zfM):=by exact "9"
noncomputable def RZ:Aj :=
  (zV (zu jM (zd (AI (zd (ze zt (zc 0) (Ar 1)) zm) (mB (zu ua (zd (zc 3) (zd (zc 0) zm)))) (zc 1)) zm)))
noncomputable def oP:Al:=ym 2 2 (RZ)
theorem zkf (T:Txt w K mg):a7 P w K mg base "later_params" 2 oP:=T.f_later_params.ok (k:=1) RY λ_ _ _ _ _ _ _ hr=>by
 exact "x E t l"
 refine RF (N:=["function", "bits"]) rfl (by exact "#zfM") rfl (by decide +kernel) T.b_enumerate ?_ ?_ ?_
 exact "l f i G n h o A dwH vzsM l U l G o A J o"
theorem zed:aq ["block", "end", "lines"] ["block"] (yc Gh):=by exact "9"
noncomputable def R0 (mr:Al):Aj :=
  zw (zG 1 (ze zt (zc 0) (Ar 1))) (zw (zG 2 (ze zT (ze zt (zc 0) (Ar 0)) (zE (zd (zc 1) zm)))) (zw (zZ (mB (ze yi (ze zt (zc 1) (Ar 0)) (As "if")))
  (zV (ze zT (ze zT (zc 2) (zu mr (zd (ze zt (zc 1) (Ar 2)) zm))) (zu mr (zd (ze zt (zc 1) (Ar 3)) zm))))
  ye) (zV (zc 2))))
noncomputable def Ba (mr:Al):Al:=ym 1 3 (R0 mr)
def R1 (T:Txt w K mg) {k:Nat} (hk:1<=k) {mr:Al} (Gz:a7 P w K mg base "lines_of" k mr):a7 P w K mg base "lines_of" (k+1) (Ba mr):=T.f_lines_of.ok (k:=k+0) zed λ_ _ _ _ _ _ _ hr=>by
 exact "u j1 f i G n h czed.nd u j2 M f i G n h C l J o czed.nd u L W f i J n h D x E M M T H l f i J n h o H l f i J n h o K x E T"
noncomputable def iX:Nat->Al
 | 0=>ym 1 3 xQ
 | n+1=>Ba (iX n)
theorem GA (T:Txt w K mg):∀n,a7 P w K mg base "lines_of" (1+1+1*n) (iX n)
 | 0=>T.f_lines_of.ok (k:=1) zed λf aV A outer s H E hr=>EX
 | n+1=>(R1 T (by omega) (GA T n)).mono (by omega)
theorem zef:aq ["truths", "bits", "place", "truth"] ["truths"] (yc Gi):=by exact "9"
noncomputable def GR:Aj :=
  (zV (zc 1))
noncomputable def GS:Aj :=
  zw (oE (zd (zc 0) zm) (g2 2 3)
  (zZ (mB (zc 3))
  (zG 1 (ze mH (zc 1) (ze kI (Ar 1) (zc 2))))
  ye)) (GR)
noncomputable def GU:Aj :=
  zw (zG 1 (Ar 0)) (GS)
noncomputable def qQ:Al:=ym 1 4 (GU)
def zkj (T:Txt w K mg):a7 P w K mg base "bits_of" 1 qQ:=T.f_bits_of.ok (k:=0) zef λ_ _ _ _ _ _ _ hr=>by
 exact "u j1 n czef.nd u FziD l G o"
 exact (qo 2 3 rfl zef.nd)
 exact "x L dwH U x j1 gzft J gzdT n T czef.nd K x E J"
theorem R3:aq ["atoms", "later"] ["atoms", "later"] (yc zfN):=by exact "9"
noncomputable def R5:Aj :=
  (zV (zu qQ (zd (jD (yQ (zc 0)) (gQ (ze yi (ze zt (zc 0) (Ar 0)) (As "of")) (ze (yS false) (ze zt (zc 0) (Ar 1)) (zc 2)))) zm)))
noncomputable def kQ:Al:=ym 2 2 (R5)
theorem zeg (T:Txt w K mg):a7 P w K mg base "need" 2 kQ:=T.f_need.ok (k:=1) R3 λ_ _ _ _ _ _ _ hr=>by
 exact "x E ezkj l"
 refine qw (N:=["atoms", "later"]) rfl (by exact "!zfN") rfl (by decide +kernel) ?_ ?_
 exact "dwg G A azcJ RyP f i G n h D dzdG RzdR f i G n h T o"
theorem R7:aq ["line"] ["line"] (yc Gj):=by exact "9"
noncomputable def R8:Aj :=
  (zV (ze (yS false) (ze zt (zc 0) (Ar 0)) (zE (zd (As "let") (zd (As "call") zm)))))
noncomputable def lM:Al:=ym 1 1 (R8)
def zkk (T:Txt w K mg):a7 P w K mg base "is_step" 1 lM:=T.f_is_step.ok (k:=0) R7 λ_ _ _ _ _ _ _ hr=>by
 exact "x E RzdR f i G n h C l D l D o"
theorem R9:aq ["line"] ["line"] (yc Gk):=by exact "9"
noncomputable def R_:Aj :=
  zw (zZ (mB (zu lM (zd (zc 0) zm)))
  (zV (ze zt (zc 0) (Ar 3)))
  ye) (zw (zZ (mB (ze yi (ze zt (zc 0) (Ar 0)) (As "go")))
  (zV (ze zt (zc 0) (Ar 2)))
  ye) (zw (zZ (mB (ze yi (ze zt (zc 0) (Ar 0)) (As "fail")))
  (zV (zE zm))
  ye) (zV (zE (zd (ze zt (zc 0) (Ar 1)) zm)))))
noncomputable def oQ:Al:=ym 1 1 (R_)
def zkl (T:Txt w K mg):a7 P w K mg base "atoms_of" 2 oQ:=T.f_atoms_of.ok (k:=1) R9 λ_ _ _ _ _ _ _ hr=>by
 exact "u L dwH ezkk l G o x E f i G n h K u L W f i G n h D x E f i G n h K u L W f i G n h D x E C o K x E C l f i G n h o"
theorem Sa:aq ["line", "later"] ["line", "later"] (yc Gm):=by exact "9"
noncomputable def Sb:Aj :=
  zw (zZ (wI (mB (ze yi (ze zt (zc 0) (Ar 0)) (As "let"))) (wI (mB (ze jL (zu kQ (zd (zu oQ (zd (zc 0) zm)) (zd (zc 1) zm))) (Ar 0))) (mB (ze (yS true) (ze zt (zc 0) (Ar 1)) (zc 1)))))
  (zV (As "let"))
  ye) (zw (zZ (wI (mB (ze yi (ze zt (zc 0) (Ar 0)) (As "call"))) (mB (ze (yS true) (ze zt (zc 0) (Ar 1)) (zc 1))))
  (zV (As "call"))
  ye) (zV (mC .non)))
noncomputable def qR:Al:=ym 2 2 (Sb)
def zsZ (T:Txt w K mg):a7 P w K mg base "broken_name" 3 qR:=T.f_broken_name.ok (k:=2) Sa λ_ _ _ _ _ _ _ hr=>by
 exact "u L dzac azb8 W f i G n h D azb8 kzca ezeg l ezkl l G o l J o n dzcI kzdS f i G n h J x E D K u L dzac azb8 W f i G n h D dzcI kzdS f i G n h J x E D K x E cwx"
theorem Sd:aq ["line"] ["line"] (yc Gn):=by exact "9"
noncomputable def Se:Aj :=
  zw (zZ (mB (ze yi (ze zt (zc 0) (Ar 0)) (As "call")))
  (zV (zE (zd (ze zt (zc 0) (Ar 2)) (zd (ze zt (zc 0) (Ar 3)) zm))))
  ye) (zw (zZ (mB (ze yi (ze zt (zc 0) (Ar 0)) (As "go")))
  (zV (zE (zd (ze zt (zc 0) (Ar 1)) (zd (ze zt (zc 0) (Ar 2)) zm))))
  ye) (zV (mC .non)))
noncomputable def wO:Al:=ym 1 1 (Se)
def zgj (T:Txt w K mg):a7 P w K mg base "aim_of" 1 wO:=T.f_aim_of.ok (k:=0) Sd λ_ _ _ _ _ _ _ hr=>by
 exact "u L W f i G n h D x E C l f i G n h l f i G n h o K u L W f i G n h D x E C l f i G n h l f i G n h o K x E cwx"
theorem Sf:aq ["aim", "goal", "later", "pairs"] ["aim", "goal", "later", "pairs"] (yc Gp):=by exact "9"
noncomputable def Sg:Aj :=
  zw (zZ (mB (ze jL (ze mH (zu kQ (zd (ze (aR zt) (zc 0) (Ar 1)) (zd (zc 2) zm))) (zc 1)) (zc 1)))
  (zV (As "goal"))
  ye) (zw (zZ (mB (ze (cz (yS true) true) (zE (zd (ze (aR zt) (zc 0) (Ar 0)) (zd (zc 1) zm))) (zc 3)))
  (zV (As "form"))
  ye) (zV (mC .non)))
noncomputable def qS:Al:=ym 4 4 (Sg)
def zs4 (T:Txt w K mg):a7 P w K mg base "broken_aim" 3 qS:=T.f_broken_aim.ok (k:=2) Sf λ_ _ _ _ _ _ _ hr=>by
 exact "u L kzca gzft ezeg l f s G n h l T o J J x E D K u L Y C l f s G n h l J o U x E D K x E cwx"
theorem zbz:aq ["function", "form", "pairs", "later", "place", "line", "word", "aim"] ["function", "form", "pairs"] (yc Gq):=by exact "9"
noncomputable def Sh:Aj :=
  zw (zG 3 (zu gn (zd (ze zT (zu oP (zd (zc 0) (zd (ze zt (zc 1) (Ar 1)) zm))) (ze zt (zc 1) (Ar 2))) zm))) (zw (zG 4 (Ar 0)) (zw (yU (yQ (zu (iX 12) (zd (ze zt (zc 0) (Ar 2)) zm))) (gN 5)
  (zw (zG 6 (zu qR (zd (zc 5) (zd (zc 3) zm))))
  (zw (zZ (mB (ze jN (zc 6) (mC .non)))
  (zV (zE (zd (zc 6) (zd (ze zt (zc 1) (Ar 0)) (zd (ze zt (zc 1) (Ar 1)) (zd (ze zt (zc 5) (Ar 1)) zm))))))
  ye)
  (zw (zG 7 (zu wO (zd (zc 5) zm)))
  (zZ (mB (ze jN (zc 7) (mC .non)))
  (zw (zG 6 (zu qS (zd (zc 7) (zd (ze zt (ze zt (zc 1) (Ar 3)) (zc 4)) (zd (zc 3) (zd (zc 2) zm))))))
  (zw (zZ (mB (ze jN (zc 6) (mC .non)))
  (zV (zE (zd (zc 6) (zd (ze zt (zc 1) (Ar 0)) (zd (ze zt (zc 1) (Ar 1)) (zd (zc 4) zm))))))
  ye)
  (oB 4 kG (Ar 1))))
  ye))))) (zV (mC .non))))
noncomputable def qT:Al:=ym 3 8 (Sh)
def zs6 (T:Txt w K mg):a7 P w K mg base "broken_form" 15 qT:=T.f_broken_form.ok (k:=14) zbz λ_ _ _ _ _ _ _ hr=>by
 exact "u j3 ezc2 l M ezkf l G l f i J n h o f i J n h o czbz.nd u j4 n czbz.nd u p dwg O l f i G n h o 4zbz.nd u j6 ezsZ l b5 l U o czbz.nd u L yzbt b6 cwx x E C l b6 l f i J n h l f i J n h l f i b5 n h o K u j7 ezgj l b5 o czbz.nd x L yzbt b7 cwx u j6 ezs4 l b7 l f i f i J n h b4 h l U l T o czbz.nd u L yzbt b6 cwx x E C l b6 l f i J n h l f i J n h l b4 o K x"
 refine OI 4 OH ?_ zbz.nd
 exact "n K x E cwx"
theorem zc7:aq ["program", "parting", "functions", "pairs", "form", "row"] ["program", "parting"] (yc zfO):=by exact "9"
noncomputable def Si:Aj :=
  zw (zG 2 (zu t_ (zd (zc 0) zm))) (zw (zG 3 (zu gn (zd (jD (yQ (zc 1)) (zE (zd (ze zt (zc 0) (Ar 0)) (zd (ze zt (zc 0) (Ar 1)) zm)))) zm))) (zw (yU (yQ (zc 1)) (gN 4)
  (zw (zG 5 (zu qT (zd (ze zt (zc 2) (ze zt (zc 4) (Ar 0))) (zd (zc 4) (zd (zc 3) zm)))))
  (zZ (mB (ze jN (zc 5) (mC .non)))
  (zV (zc 5))
  ye))) (zV (mC .non))))
noncomputable def iY:Al:=ym 2 6 (Si)
theorem zeh (T:Txt w K mg):a7 P w K mg base "broken" 16 iY:=T.f_broken.ok (k:=15) zc7 λ_ _ _ _ _ _ _ hr=>by
 exact "u j2 ezke l G o czc7.nd u j3 ezc2 l"
 refine Ez (M:=["program", "parting", "functions", "pairs", "~form", "row"]) rfl (by exact "!zfO") (by exact ⟨rfl,by show ∀p∈List.zip (["program", "parting", "functions", "pairs", "~form", "row"]:Ad) (["program", "parting", "functions", "pairs", "form", "row"]:Ad),p.1=p.2\/p.1∉(_:Ad);decide +kernel⟩) (by decide +kernel) ?_ ?_
 exact "dwg J A C l f i G n h l f i G n h o o czc7.nd u p dwg J"
 exact (we 4 zc7.nd)
 exact "u j5 ezs6 l f i T f i b4 n h h l b4 l U o czc7.nd x L yzbt b5 cwx x E b5 K x E cwx"
theorem Sj:aq ["function", "held"] ["function", "held"] (yc zfP):=by exact "9"
noncomputable def Sk:Aj :=
  (zV (zu qQ (zd (jD (yQ (ze (aR zt) (zc 0) (Ar 1))) (ze (cz (yS false) false) (zE (zd (ze (aR zt) (zc 1) (Ar 0)) (zd (zc 0) zm))) (zc 2))) zm)))
noncomputable def qU:Al:=ym 2 2 (Sk)
theorem zta (T:Txt w K mg):a7 P w K mg base "held_bits" 2 qU:=T.f_held_bits.ok (k:=1) Sj λ_ _ _ _ _ _ _ hr=>by
 exact "x E ezkj l"
 refine qw (N:=["function", "held"]) rfl (by exact "!zfP") rfl (by decide +kernel) ?_ ?_
 exact "dwg f s G n h A X C l f s J n h l G o T o"
theorem GV:aq ["self", "program", "held", "function"] ["self", "program", "held"] (yc zfQ):=by exact "9"
noncomputable def Sl:Aj :=
  zw (sFld "pairs" insOf (zc 0) (zu gn (zd (zc 2) zm))) (zw (sFld "bits_by_name" insOf (zc 0) qt) (yU (yQ (zc 1)) (gN 3)
  (iT (wn (cS "bits_by_name" insOf excOf) (zc 0)) (ze zt (zc 3) (Ar 0)) (zu qU (zd (zc 3) (zd (wn (cS "pairs" insOf excOf) (zc 0)) zm))))))
noncomputable def uc:Al:=ym 3 4 (Sl)
def Sm (T:Txt w K mg):xK P w K mg base "Holding" 3 uc:=T.n_Holding.ok (k:=2) GV λ_ _ _ _ _ _ _ hr=>by
 exact "u"
 refine Ed T.d_pairs ?_ ?_
 exact "G ezc2 l T o u"
 refine Ed T.d_bits_by_name ?_ ?_
 exact "G czfo x p dwg J"
 exact (we 3 GV.nd)
 exact "x Qzfp V 2T.d_bits_by_name G f i U n h ezta l U l 2T.d_pairs G o"
 rfl
theorem Sn:aq ["self", "aim", "later"] ["self", "aim", "later"] (yc zfR):=by exact "9"
noncomputable def So:Aj :=
  (zV (ze mH (zu kQ (zd (ze zt (zc 1) (Ar 1)) (zd (zc 2) zm))) (ze zt (wn (cS "bits_by_name" insOf excOf) (zc 0)) (ze zt (zc 1) (Ar 0)))))
noncomputable def m_Holding_goal_of:Al:=ym 3 3 (So)
def Sr (T:Txt w K mg):gT P w K mg base "Holding" "goal_of" 3 m_Holding_goal_of:=T.m_Holding_goal_of.ok (k:=2) Sn λ_ _ _ _ _ _ _ hr=>by
 exact "x E gzft ezeg l f i J n h l T o f i 2T.d_bits_by_name G f i J n h h"
noncomputable def qV (c:Str):Option (Al):=if c = "Holding" then some m_Holding_goal_of else none
def ztg (T:Txt w K mg) {c:Str} {m:Al} (h:qV c=some m):gT P w K mg base c "goal_of" 3 m:=by
 unfold qV at h
 by_cases e0:c = "Holding"
 ·rw [zF e0] at h;cases h;rw [e0];exact (Sr T).mono (by decide)
 rw [zR e0] at h
 cases h
theorem Ss:aq ["self", "name", "step", "later"] ["self", "name", "step", "later"] (yc zfS):=by exact "9"
noncomputable def Su:Aj :=
  zw (zZ (jw (mB (ze yi (ze (aR zt) (zc 2) (Ar 0)) (As "call"))) (mB (ze jL (zu kQ (zd (zu oQ (zd (zc 2) zm)) (zd (zc 3) zm))) (Ar 0))))
  (zV (mC (.bl true)))
  ye) (zV (ze (cz (yS false) false) (zE (zd (zc 1) (zd (ze (aR zt) (zc 2) (Ar 1)) zm))) (wn (cS "pairs" insOf excOf) (zc 0))))
noncomputable def m_Holding_makes_later:Al:=ym 4 4 (Su)
def Sv (T:Txt w K mg):gT P w K mg base "Holding" "makes_later" 3 m_Holding_makes_later:=T.m_Holding_makes_later.ok (k:=2) Ss λ_ _ _ _ _ _ _ hr=>by
 exact "u L dzac aza8 W f s T n h D dzbG kzca ezeg l ezkl l T o l U o n x E czal K x E X C l J l f s T n h o 2T.d_pairs G"
noncomputable def oR (c:Str):Option (Al):=if c = "Holding" then some m_Holding_makes_later else none
def ztk (T:Txt w K mg) {c:Str} {m:Al} (h:oR c=some m):gT P w K mg base c "makes_later" 3 m:=by
 unfold oR at h
 by_cases e0:c = "Holding"
 ·rw [zF e0] at h;cases h;rw [e0];exact (Sv T).mono (by decide)
 rw [zR e0] at h
 cases h
theorem zcs:aq ["self", "function", "bits", "later", "steps", "goals", "line", "aim"] ["self", "function", "bits"] (yc zfT):=by exact "9"
noncomputable def Sw:Aj :=
  zw (zG 3 (zu gn (zd (zu oP (zd (zc 1) (zd (zc 2) zm))) zm))) (zw (zG 4 (jb zm)) (zw (zG 5 (jb zm)) (zw (yU (yQ (zu (iX 12) (zd (ze zt (zc 1) (Ar 2)) zm))) (gN 6)
  (zw (zG 7 (zu wO (zd (zc 6) zm)))
  (zw (zZ (mB (ze jN (zc 7) (mC .non)))
  (yT (yN yR (zc 5) (iS "goal_of" qV (zc 0) (zd (zc 7) (zd (zc 3) zm)))))
  ye)
  (zZ (wI (mB (zu lM (zd (zc 6) zm))) (mB (iS "makes_later" oR (zc 0) (zd (ze zt (zc 1) (Ar 0)) (zd (zc 6) (zd (zc 3) zm))))))
  (zw (yT (yN yR (zc 4) (ze zt (zc 6) (Ar 1))))
  (iT (zc 3) (ze zt (zc 6) (Ar 1)) (mC (.bl true))))
  ye)))) (zV (zE (zd (ze zt (zc 1) (Ar 0)) (zd (zc 2) (zd (zu jM (zd (zc 4) zm)) (zd (zu jM (zd (zc 5) zm)) zm)))))))))
noncomputable def m_Holding_best_form:Al:=ym 3 8 (Sw)
def Sx (T:Txt w K mg):gT P w K mg base "Holding" "best_form" 15 m_Holding_best_form:=T.m_Holding_best_form.ok (k:=14) zcs λ_ _ _ _ _ _ _ hr=>by
 exact "u j3 ezc2 l ezkf l J l T o o czcs.nd u j4 5 o czcs.nd u j5 5 o czcs.nd u p dwg O l f i J n h o"
 exact (we 6 zcs.nd)
 exact "u j7 ezgj l b6 o czcs.nd u L yzbt b7 cwx x dwt awy b5 Iztg G l b7 l U o K x L dzac azb8 dwH ezkk l b6 o dzcI dwH Iztk G l f i J n h l b6 l U o u dwt awy b4 f i b6 n h x Qzfp V U f i b6 n h czal"
 rfl
 exact "K x E C l f i J n h l T l t l b4 o l t l b5 o o"
noncomputable def qW (c:Str):Option (Al):=if c = "Holding" then some m_Holding_best_form else none
def ztn (T:Txt w K mg) {c:Str} {m:Al} (h:qW c=some m):gT P w K mg base c "best_form" 15 m:=by
 unfold qW at h
 by_cases e0:c = "Holding"
 ·rw [zF e0] at h;cases h;rw [e0];exact (Sx T).mono (by decide)
 rw [zR e0] at h
 cases h
theorem GW:aq ["block", "aims"] ["block"] (yc zd6):=by exact "9"
noncomputable def Sy:Aj :=
  zw (zG 1 (jD (yQ (zu (iX 12) (zd (zc 0) zm))) (zu wO (zd (zc 0) zm)))) (zV (zu jM (zd (lJ (yQ (zc 1)) (mB (ze jN (zc 0) (mC .non))) (zc 0)) zm)))
noncomputable def Bb:Al:=ym 1 2 (Sy)
theorem ztp (T:Txt w K mg):a7 P w K mg base "aims_of" 15 Bb:=T.f_aims_of.ok (k:=14) GW λ_ _ _ _ _ _ _ hr=>by
 exact "u"
 refine Fv 1 (N:=["block", "aims"]) rfl (by exact "!zd6") rfl (by decide +kernel) ?_ ?_ GW.nd rfl (by exact "%") (by exact "&") (by rfl)
 exact "dwg O l G o A vzgj l G o x E t l"
 refine FA (N:=["block", "aims"]) rfl (by exact "#zd6") rfl (by decide +kernel) ?_ ?_ ?_
 exact "dwg J A yzbt G cwx A G o"
theorem Sz:aq ["function", "goals"] ["function", "goals"] (yc zfU):=by exact "9"
noncomputable def SA:Aj :=
  (zV (Aw (Ee (zd (zu Bb (zd (ze zt (zc 0) (Ar 2)) zm)) (zd (zc 1) zm))) (zE (zd (ze zt (zc 0) (Ar 0)) (zd (zc 1) zm)))))
noncomputable def qX:Al:=ym 2 2 (SA)
theorem zts (T:Txt w K mg):a7 P w K mg base "aimed_pairs" 16 qX:=T.f_aimed_pairs.ok (k:=15) Sz λ_ _ _ _ _ _ _ hr=>by
 exact "x E"
 refine QS (N:=["function", "goals"]) rfl (by exact "#zfU") rfl (by decide +kernel) ?_ ?_
 refine OY T.b_zip ?_
 exact "l eztp l f i G n h o l J o A C l f i G n h l J o"
theorem AR:aq ["program", "bits", "held", "functions", "holding", "met", "marks", "forms", "pair", "function", "form", "aimed"] ["program", "bits", "held"] (yc Gr):=by exact "9"
noncomputable def SD:Aj :=
  zw (zG 3 (zu t_ (zd (zc 0) zm))) (zw (zG 4 (zu (lC "Holding" uc) (zd (zc 0) (zd (zc 2) zm)))) (zw (zG 5 (jb (zd (zE (zd (ze (aR zt) (ze (aR zt) (zc 0) (Ar 0)) (Ar 0)) (zd (zc 1) zm))) zm))) (zw (zG 6 (zu gn (zd (zc 5) zm))) (zw (zG 7 (jb zm)) (zw (xO (mB (ze wR (zu yH (zd (zc 7) zm)) (zu yH (zd (zc 5) zm))))
  (zw (zG 8 (ze (aR zt) (zc 5) (zu yH (zd (zc 7) zm))))
  (zw (zG 9 (ze (aR zt) (zc 3) (ze (aR zt) (zc 8) (Ar 0))))
  (zw (zG 10 (iS "best_form" qW (zc 4) (zd (zc 9) (zd (ze (aR zt) (zc 8) (Ar 1)) zm))))
  (zw (yT (yN yR (zc 7) (zc 10)))
  (yU (yQ (zu qX (zd (zc 9) (zd (ze (aR zt) (zc 10) (Ar 3)) zm)))) (gN 11)
  (zZ (mB (ze (cz (yS true) true) (zc 11) (zc 6)))
  (zw (mS (zc 6) (zc 11) (mC (.bl true)))
  (yT (yN yR (zc 5) (zc 11))))
  ye))))))) (zV (zu jM (zd (zc 7) zm))))))))
noncomputable def qY:Al:=ym 3 12 (SD)
def zko (T:Txt w K mg):a7 P w K mg base "best" 17 qY:=T.f_best.ok (k:=16) AR λ_ _ _ _ _ _ _ hr=>by
 exact "u j3 ezke l G o 7 u j4"
 refine Oy (Sm T) (hr.mono (by decide)) zQ ?_
 exact "l G l T o 7 u j5 5 l C l f s f s G n h n h l J o o 7 u j6 ezc2 l b5 o 7 u j7 5 o 7 u"
 refine Ef (jv rfl rfl) ?_ ?_
 exact "yzb9 q l b7 o q l b5 o u j8 f s b5 q l b7 o h 7 u j9 f s U f s b8 n h h 7 u j10 Iztn b4 l b9 l f s b8 n h o 7 u dwt awy b7 b10 x p dwg ezts l b9 l f s b10 n h o"
 exact (we 11 AR.nd)
 exact "x L Y b11 b6 u Qzjm V b6 b11 czal"
 rfl
 exact "x dwt awy b5 b11 K x E t l b7 o"
theorem zdd:aq ["_law_block_here", "_law_lines_here", "_law_todo", "_law_steps", "_law_end_here"] ["_law_block_here"] (yc Gs):=by exact "9"
noncomputable def SE:Aj :=
  zw (zG 1 (jb zm)) (zw (zG 2 (jb (zd (zc 0) zm))) (zw (xO (mB (ze iQ (zu yH (zd (zc 2) zm)) (Ar 0)))
  (zw (qp (g2 3 4) (yN tT (zc 2) (Ar 0)))
  (zw (yT (yN tU (zc 1) (zc 3)))
  (zw (yT (yN yR (zc 1) (zc 4)))
  (zZ (mB (ze yi (ze zt (zc 4) (Ar 0)) (As "if")))
  (zG 2 (ze zT (jb (zd (ze zt (zc 4) (Ar 2)) (zd (ze zt (zc 4) (Ar 3)) zm))) (zc 2)))
  ye))))) (zV (zc 1))))
noncomputable def mU:Al:=ym 1 5 (SE)
def zkp (T:Txt w K mg):a7 P w K mg base "_law_lines" 1 mU:=T.f__law_lines.ok (k:=0) zdd λ_ _ _ _ _ _ _ hr=>by
 exact "u j1 5 o czdd.nd u j2 5 l G o czdd.nd u"
 refine Ef (jv rfl rfl) ?_ ?_
 exact "yzdH q l T o n u azp3"
 exact (qo 3 4 rfl zdd.nd)
 exact "azrT T n u dwt azrX J U u dwt awy J b4 x L W f i b4 n h D x j2 M 5 l f i b4 n h l f i b4 n h o T czdd.nd K x E J"
theorem zct:aq ["_law_cell", "_law_program_here", "_law_held_here", "_law_k", "_law_function", "_law_names"] ["_law_cell", "_law_program_here"] (yc zfV):=by exact "9"
noncomputable def SF:Aj :=
  zw (zG 2 (jb zm)) (zw (yU (bo (zd (zu jT (zd (zc 0) (zd (Ar 30) (zd (Ar 4) zm)))) zm)) (gN 3)
  (zw (zG 4 (ze zt (zc 1) (zu jT (zd (zc 0) (zd (ze zT (Ar 31) (zc 3)) (zd (zu yH (zd (zc 1) zm)) zm))))))
  (zw (zG 5 (ze zT (zu gZ (zd (ze zt (zc 4) (Ar 1)) zm)) (jb (zd (As "nothing") zm))))
  (zw (zG 5 (ze zT (zc 5) (lJ (yQ (zu mU (zd (ze zt (zc 4) (Ar 2)) zm))) (jw (mB (ze yi (ze zt (zc 0) (Ar 0)) (As "let"))) (mB (ze yi (ze zt (zc 0) (Ar 0)) (As "call")))) (ze zt (zc 0) (Ar 1)))))
  (yT (yN yR (zc 2) (zE (zd (ze zt (zc 4) (Ar 0)) (zd (ze zt (zc 5) (zu jT (zd (zc 0) (zd (ze zT (Ar 35) (zc 3)) (zd (zu yH (zd (zc 5) zm)) zm))))) zm))))))))) (zV (zu jM (zd (zc 2) zm))))
noncomputable def Bc:Al:=ym 2 6 (SF)
theorem ztw (T:Txt w K mg):a7 P w K mg base "_law_held" 2 Bc:=T.f__law_held.ok (k:=1) zct λ_ _ _ _ _ _ _ hr=>by
 exact "u j2 5 o czct.nd u p z l ezaf l G l n l n o o"
 exact (we 3 zct.nd)
 exact "u j4 f i J ezaf l G l M n U l q l J o o h czct.nd u j5 M 8 l f i b4 n h o 5 l D o czct.nd u j5 M b5"
 refine FA (N:=["_law_cell", "_law_program_here", "_law_held_here", "_law_k", "_law_function", "_law_names"]) rfl (by exact "#zfV") rfl (by decide +kernel) ?_ ?_ ?_
 exact "dwg ezkp l f i b4 n h o A dzac aza8 W f i G n h D dzbG W f i G n h D A f i G n h czct.nd x dwt awy T C l f i b4 n h l f i b5 ezaf l G l M n U l q l b5 o o h o x E t l T o"
theorem SG:aq ["_law_found"] ["_law_found"] (yc Gu):=by exact "9"
noncomputable def SH:Aj :=
  (zV (gQ (zu (je isT) (zd (zc 0) (zd (mC (.ty "int")) zm))) (xq (zu (je isT) (zd (zc 0) (zd (mC (.ty "bool")) zm))))))
noncomputable def kR:Al:=ym 1 1 (SH)
def zgm (T:Txt w K mg):a7 P w K mg base "_law_whole" 1 kR:=T.f__law_whole.ok (k:=0) SG λ_ _ _ _ _ _ _ hr=>by
 exact "x E azcJ r l G l"
 exact (oz T.b_int O3)
 exact "o dzdG dzpt r l G l"
 exact (oz T.b_bool Eg)
 exact "o"
theorem SI:aq ["_law_form"] ["_law_form"] (yc AK):=by exact "9"
noncomputable def SJ:Aj :=
  zw (zZ (jw (j9 (mB (zu (je isT) (zd (zc 0) (zd (mC (.ty "tuple")) zm))))) (mB (ze jL (zu yH (zd (zc 0) zm)) (Ar 4))))
  (zV (mC (.bl false)))
  ye) (zw (zZ (jw (j9 (mB (zu (je isT) (zd (ze zt (zc 0) (Ar 0)) (zd (mC (.ty "str")) zm))))) (j9 (mB (zu kR (zd (ze zt (zc 0) (Ar 1)) zm)))))
  (zV (mC (.bl false)))
  ye) (zw (zZ (jw (j9 (mB (zu (je isT) (zd (ze zt (zc 0) (Ar 2)) (zd (mC (.ty "tuple")) zm))))) (j9 (mB (zu (je isT) (zd (ze zt (zc 0) (Ar 3)) (zd (mC (.ty "tuple")) zm))))))
  (zV (mC (.bl false)))
  ye) (zV (gQ (zu mO (zd (jD (yQ (ze zt (zc 0) (Ar 2))) (zu (je isT) (zd (zc 0) (zd (mC (.ty "str")) zm)))) zm)) (zu mO (zd (jD (yQ (ze zt (zc 0) (Ar 3))) (zu kR (zd (zc 0) zm))) zm))))))
noncomputable def qZ:Al:=ym 1 1 (SJ)
theorem ztB (T:Txt w K mg):a7 P w K mg base "_law_is_form" 2 qZ:=T.f__law_is_form.ok (k:=1) SI λ_ _ _ _ _ _ _ hr=>by
 exact "u L dzac aza8 dzbm dwH r l G l P o dzbG kzca q l G o n x E czal K u L dzac aza8 dzbm dwH r l f i G n h l"
 exact (oz T.b_str tD)
 exact "o dzbG dzbm dwH ezgm l f i G n h o x E czal K u L dzac aza8 dzbm dwH r l f i G n h l P o dzbG dzbm dwH r l f i G n h l P o x E czal K x E azcJ S l B dwg f i G n h A r l G l"
 exact (oz T.b_str tD)
 exact "o o dzdG S l B dwg f i G n h A vzgm l G o o"
theorem SK:aq ["_law_found"] ["_law_found"] (yc zfW):=by exact "9"
noncomputable def SM:Aj :=
  (zV (gQ (zu (je isT) (zd (zc 0) (zd (mC (.ty "tuple")) zm))) (gQ (ze iQ (zu yH (zd (zc 0) zm)) (Ar 0)) (zu mO (zd (jD (yQ (zc 0)) (zu qZ (zd (zc 0) zm))) zm)))))
noncomputable def Bd:Al:=ym 1 1 (SM)
theorem ztE (T:Txt w K mg):a7 P w K mg base "_law_is_parting" 3 Bd:=T.f__law_is_parting.ok (k:=2) SK λ_ _ _ _ _ _ _ hr=>by
 exact "x E azcJ r l G l P o azcJ"
 refine sU zdH ?_ ?_
 exact "q l G o n dzdG S l"
 refine qw (N:=["_law_found"]) rfl (by exact "!zfW") rfl (by decide +kernel) ?_ ?_
 exact "dwg G A vztB l G o o"
theorem zcu:aq ["_law_found", "_law_places_here", "_law_k", "_law_form", "_law_j", "_law_goal", "_law_b"] ["_law_found"] (yc Gv):=by exact "9"
noncomputable def SN:Aj :=
  zw (zG 1 (jb zm)) (zw (mT (zd (zc 0) zm) (g2 2 3)
  (zw (yU (bo (zd (zu yH (zd (ze zt (zc 3) (Ar 2)) zm)) zm)) (gN 4)
  (yT (yN yR (zc 1) (zE (zd (zc 2) (zd (As "name") (zd (zc 4) (zd (Ar 0) zm))))))))
  (mT (zd (ze zt (zc 3) (Ar 3)) zm) (g2 4 5)
  (yU (bo (zd (Ar 6) zm)) (gN 6)
  (zZ (mB (ze yi (ze zY (ze yG (zc 5) (ze kI (Ar 1) (zc 6))) (Ar 2)) (Ar 1)))
  (yT (yN yR (zc 1) (zE (zd (zc 2) (zd (As "bit") (zd (zc 4) (zd (zc 6) zm)))))))
  ye))))) (zV (zc 1)))
noncomputable def Be:Al:=ym 1 7 (SN)
def ztG (T:Txt w K mg):a7 P w K mg base "_law_places" 1 Be:=T.f__law_places.ok (k:=0) zcu λ_ _ _ _ _ _ _ hr=>by
 exact "u j1 5 o czcu.nd u Fzjp l G o"
 exact (qo 2 3 rfl zcu.nd)
 exact "u p z l q l f i U n h o o"
 exact (we 4 zcu.nd)
 exact "x dwt awy J C l T l D l b4 l n o x Fzjp l f i U n h o"
 exact (qo 4 5 rfl zcu.nd)
 exact "x p z l n o"
 exact (we 6 zcu.nd)
 exact "x L W N gjy b5 gzdT n b6 n n x dwt awy J C l T l D l b4 l b6 o K x E J"
theorem zdf:aq ["_law_found", "_law_place", "_law_form", "_law_j", "_law_new"] ["_law_found", "_law_place"] (yc Gw):=by exact "9"
noncomputable def GX:Aj :=
  zw (zZ (mB (ze yi (ze zt (zc 1) (Ar 1)) (As "bit")))
  (zG 4 (zE (zd (ze zt (zc 2) (Ar 0)) (zd (ze zt (zc 2) (Ar 1)) (zd (ze zt (zc 2) (Ar 2)) (zd (ze zT (ze zT (wb (ze zt (zc 2) (Ar 3)) bU (bC (zc 3))) (zE (zd (ze wa (ze zt (ze zt (zc 2) (Ar 3)) (zc 3)) (ze kI (Ar 1) (ze zt (zc 1) (Ar 3)))) zm))) (wb (ze zt (zc 2) (Ar 3)) (bC (ze zT (zc 3) (Ar 1))) bU)) zm))))))
  ye) (zV (ze zT (ze zT (wb (zc 0) bU (bC (ze zt (zc 1) (Ar 0)))) (zE (zd (zc 4) zm))) (wb (zc 0) (bC (ze zT (ze zt (zc 1) (Ar 0)) (Ar 1))) bU)))
noncomputable def GY:Aj :=
  zw (zG 2 (ze zt (zc 0) (ze zt (zc 1) (Ar 0)))) (zw (zG 3 (ze zt (zc 1) (Ar 2))) (zw (zG 4 (zE (zd (ze zt (zc 2) (Ar 0)) (zd (ze zt (zc 2) (Ar 1)) (zd (ze zT (wb (ze zt (zc 2) (Ar 2)) bU (bC (zc 3))) (wb (ze zt (zc 2) (Ar 2)) (bC (ze zT (zc 3) (Ar 1))) bU)) (zd (ze zt (zc 2) (Ar 3)) zm)))))) (GX)))
noncomputable def oS:Al:=ym 2 5 (GY)
def ztH (T:Txt w K mg):a7 P w K mg base "_law_less" 1 oS:=T.f__law_less.ok (k:=0) zdf λ_ _ _ _ _ _ _ hr=>by
 exact "u j2 f i G f i J n h h czdf.nd u j3 f i J n h czdf.nd u j4 C l f i T n h l f i T n h l M mzbb f i T n h czba dzaQ U mzbb f i T n h dzaQ M U n czba l f i T n h o czdf.nd u L W f i J n h D x j4 C l f i T n h l f i T n h l f i T n h l M M mzbb f i T n h czba dzaQ U C l gzaO f i f i T n h U h gzdT n f i J n h o mzbb f i T n h dzaQ M U n czba o czdf.nd K x E M M mzbb G czba dzaQ f i J n h C l b4 o mzbb G dzaQ M f i J n h n czba"
theorem zks:aq ["_law_program_here", "_law_name_here", "_law_function"] ["_law_program_here", "_law_name_here"] (yc Gx):=by exact "9"
noncomputable def SQ:Aj :=
  zw (yU (yQ (zc 0)) (gN 2)
  (zZ (mB (ze wT (ze zt (zc 2) (Ar 0)) (zc 1)))
  (zV (zc 2))
  ye)) (zV (mC .non))
noncomputable def ud:Al:=ym 2 3 (SQ)
def ztJ (T:Txt w K mg):a7 P w K mg base "_law_by" 1 ud:=T.f__law_by.ok (k:=0) zks λ_ _ _ _ _ _ _ hr=>by
 exact "u p dwg G 3zks.nd x L kzfz f i T n h J x E T K x E cwx"
theorem zek:aq ["_law_program_here", "_law_found", "_law_place", "_law_form", "_law_name_here", "_law_line"] ["_law_program_here", "_law_found", "_law_place"] (yc Gy):=by exact "9"
noncomputable def GZ:Aj :=
  zw (yU (yQ (zu mU (zd (ze zt (zu ud (zd (zc 0) (zd (ze zt (zc 3) (Ar 0)) zm))) (Ar 2)) zm))) (gN 5)
  (zZ (wI (mB (ze yi (ze zt (zc 5) (Ar 0)) (As "call"))) (mB (ze wT (ze zt (zc 5) (Ar 1)) (zc 4))))
  (zV (zE (zd (As "call") (zd (ze zt (zc 3) (Ar 0)) (zd (ze zt (zc 3) (Ar 1)) (zd (zc 4) zm))))))
  ye)) (zV (zE (zd (As "let") (zd (ze zt (zc 3) (Ar 0)) (zd (ze zt (zc 3) (Ar 1)) (zd (zc 4) zm))))))
noncomputable def SR:Aj :=
  zw (zG 3 (ze zt (zc 1) (ze zt (zc 2) (Ar 0)))) (zw (zZ (mB (ze yi (ze zt (zc 2) (Ar 1)) (As "bit")))
  (zV (zE (zd (As "goal") (zd (ze zt (zc 3) (Ar 0)) (zd (ze zt (zc 3) (Ar 1)) (zd (ze zt (zc 2) (Ar 2)) zm))))))
  ye) (zw (zG 4 (ze zt (ze zt (zc 3) (Ar 2)) (ze zt (zc 2) (Ar 2)))) (GZ)))
noncomputable def mV:Al:=ym 3 6 (SR)
def ztL (T:Txt w K mg):a7 P w K mg base "_law_row" 2 mV:=T.f__law_row.ok (k:=1) zek λ_ _ _ _ _ _ _ hr=>by
 exact "u j3 f i J f i T n h h czek.nd u L W f i T n h D x E C l D l f i U n h l f i U n h l f i T n h o K u j4 f i f i U n h f i T n h h czek.nd u p dwg ezkp l f i eztJ l G l f i U n h o n h o 4zek.nd x L dzac azb8 W f i b5 n h D dzcI kzfz f i b5 n h b4 x E C l D l f i U n h l f i U n h l b4 o K x E C l D l f i U n h l f i U n h l b4 o"
theorem AQ:aq ["_law_script", "_law_program_here", "_law_cell", "_law_size", "_law_bits", "_law_found", "_law_places_here", "_law_k", "_law_place", "_law_row_here"] ["_law_script"] (yc AL):=by exact "9"
noncomputable def SS:Aj :=
  zw (zG 1 (zu A_ (zd (zc 0) zm))) (zw (zG 2 (ze yG (zu jp (zd (zc 0) (zd (Ar 5) zm))) (Ar 8))) (zw (zG 3 (ze kI (Ar 1) (zu yH (zd (ze zt (ze zt (zc 1) (Ar 0)) (Ar 1)) zm)))) (zw (zG 4 (ze zY (zc 2) (zc 3))) (zw (zZ (mB (ze jN (zu iY (zd (zc 1) (zd (zu qY (zd (zc 1) (zd (zc 4) (zd (zu Bc (zd (ze yG (zc 2) (zc 3)) (zd (zc 1) zm))) zm)))) zm))) (mC .non)))
  (zV (mC (.bl false)))
  ye) (zw (zG 5 (zu qY (zd (zc 1) (zd (zc 4) (zd (zE zm) zm))))) (zw (zZ (jw (j9 (mB (zu Bd (zd (zc 5) zm)))) (mB (ze jN (zu iY (zd (zc 1) (zd (zc 5) zm))) (mC .non))))
  (zV (mC (.bl false)))
  ye) (zw (zG 6 (zu Be (zd (zc 5) zm))) (zw (yU (bo (zd (zu oG (zd (Ar 6) (zd (zu yH (zd (zc 6) zm)) zm))) zm)) (gN 7)
  (zw (zG 8 (ze zt (zc 6) (zu jT (zd (ze yG (zc 2) (zc 3)) (zd (ze zT (Ar 40) (zc 7)) (zd (zu yH (zd (zc 6) zm)) zm))))))
  (zw (zZ (mB (ze wR (zu yH (zd (zc 6) zm)) (Ar 7)))
  (zG 8 (ze zt (zc 6) (zc 7)))
  ye)
  (zw (zG 9 (zu iY (zd (zc 1) (zd (zu oS (zd (zc 5) (zd (zc 8) zm))) zm))))
  (zw (zZ (jw (j9 (mB (zu (je isT) (zd (zc 9) (zd (mC (.ty "tuple")) zm))))) (jw (mB (ze jL (zu yH (zd (zc 9) zm)) (Ar 4))) (jw (j9 (mB (zu kR (zd (ze zt (zc 9) (Ar 2)) zm)))) (mB (zu (je isT) (zd (ze zt (zc 9) (Ar 3)) (zd (mC (.ty "bool")) zm)))))))
  (zV (mC (.bl false)))
  ye)
  (zZ (mB (ze jL (zc 9) (zu mV (zd (zc 1) (zd (zc 5) (zd (zc 8) zm))))))
  (zV (mC (.bl false)))
  ye)))))) (zV (ze x8 (zu iY (zd (zc 1) (zd (zc 5) zm))) (mC .non)))))))))))
noncomputable def G0:Al:=ym 1 10 (SS)
def ztN (T:Txt w K mg) {f:Addr} {fd:FuncData} (F:e_ K "law" "law" AL f fd):bO P w K mg base (cZ P w) 18 f fd ["_law_script"] (iR K mg G0):=tq (k:=17) F AQ λaV A outer s H E hr =>by
 exact "u j1 ezsH l G o 1 u j2 gjy ewN l G l n o n 1 u j3 gzdT n q l f i f i J n h n h o 1 u j4 N T U 1 u L yzbt ezeh l J l ezko l J l b4 l eztw l gjy T U l J o o o cwx x E czal K u j5 ezko l J l b4 l C o o 1 u L dzac aza8 dzbm dwH eztE l b5 o dzbG yzbt ezeh l J l b5 o cwx x E czal K u j6 eztG l b5 o 1 u p z l"
 refine yW (Qn rfl) T.b_min Qo ?_
 exact "l n l q l b6 o o o"
 exact (we 7 AQ.nd)
 exact "u j8 f i b6 ezaf l gjy T U l M n b7 l q l b6 o o h 1 u L yzb9 q l b6 o n x j8 f i b6 b7 h 1 K u j9 ezeh l J l eztH l b5 l b8 o o 1 u L dzac aza8 dzbm dwH r l b9 l P o aza8 kzca q l b9 o n aza8 dzbm dwH ezgm l f i b9 n h o dzbG dwH r l f i b9 n h l"
 exact (oz T.b_bool Eg)
 exact "o x E czal K x L kzca b9 eztL l J l b5 l b8 o x E czal K x E"
 refine sU Qs ?_ ?_
 exact "ezeh l J l b5 o cwx"
end
def ue (i j:Int) (h:0<j):jc i j=i%j:=by unfold jc;rw [zF h]
def G1 (i j:Int) (h:0<j):jH i j=i/j:=by unfold jH;rw [zF h]
noncomputable abbrev mW:Str := "abcdefghijklmnopqrstuvwxyz"
def Old (a b:ae):Prop:=∀(n:Nat) so,a[n]?=some so->b[n]?=some so
def Old.refl (a:ae):Old a a:=λ_ _ e=>e
def Old.trans {a b c:ae}(h:Old a b) (h':Old b c):Old a c:=λn so e=>h' n so (h n so e)
def SU {a b:ae}(h:Pre a b):Old a b:=λn so e=>h.get e
def yb (a d:ae):Old a (a++d):=SU (Pre.of a d)
theorem G3 {g:PV->zj->Option zj}{body:Aj}(I:Nat->zj->ae->Prop) (n:Nat) (hb:∀i e st,i<n->I i e st->∃e1 e2 ax,g (.int i) e=some e1/\body e1 st=.ok (.nx e2) ax/\I (i+1) e2 ax) :
  ∀(k i:Nat) (env:zj) (st:ae),i+k=n->I i env st->∃bp bA,forL g body ((List.range' i k).map λi:Nat=>PV.int i) env st=.ok (.nx bp) bA/\I n bp bA
 | 0,i,env,st,hk,h=>⟨env,st,by simp,by rw [<-hk];exact h⟩
 | k+1,i,env,st,hk,h=>by
  obtain ⟨e1,e2,ax,q1,q2,q3⟩:=hb i env st (by omega) h
  obtain ⟨bp,bA,r1,r2⟩:=G3 I n hb k (i+1) e2 ax (by omega) q3
  refine ⟨bp,bA,?_,r2⟩
  rw [List.range'_succ,yo]
  unfold forL
  rw [q1]
  simp only
  rw [q2]
  simp only [zJ]
  exact r1
theorem SV (m:Nat) (st:ae) (h:m<=1000):mF [.int (m:Int)] st=.ok (.im ((List.range' 0 m).map λi:Nat=>PV.int i)) st:=by
 have hr:cR (m:Int)=true:=by simp [cR];omega
 simp [hr,nums,List.range_eq_range']
theorem bG (i:Int) (j:Nat) (h:0<j):∃b:Nat,b<j/\jc i j=b:=by
 have h1:=Int.emod_nonneg i (show (j:Int)≠0 by omega)
 have h2:=Int.emod_lt_of_pos i (show (0:Int)<j by omega)
 exact ⟨(i%j).toNat,by omega,by rw [ue _ _ (by omega)];omega⟩
def yv {st:ae}{n:Nat}{so:SO}(h:st[n]?=some so):n<st.length:=(yl.mp h).1
theorem uf {fe:Ai}{env:zj}(xs:An) (I:Nat->List PV->ae->Prop) (step:∀i x ys st,xs[i]?=some x->I i ys st->∃y ao,fe (some x::env) st=.ok y ao/\I (i+1) (ys++[y]) ao) :
  ∀(k i:Nat) (ys:An) (st:ae),i+k=xs.length->I i ys st->∃ly bA,cU fe env (xs.drop i) ys st=.ok (.ref bA.length) (bA++[.lst ly])/\I xs.length ly bA
 | 0,i,ys,st,hk,h=>⟨ys,st,by rw [iD (by omega)];rfl,by rw [<-hk];exact h⟩
 | k+1,i,ys,st,hk,h=>by
  have hx:xs[i]?=some (xs[i]'(by omega)):=yB (by omega)
  obtain ⟨y,ao,e,h1⟩:=step i _ ys st hx h
  obtain ⟨ly,bA,r,h2⟩:=uf xs I step k (i+1) (ys++[y]) ao (by omega) h1
  refine ⟨ly,bA,?_,h2⟩
  rw [j8 (by omega)]
  unfold cU
  rw [e]
  simp only [mG,zJ]
  exact r
noncomputable abbrev S (l:List Nat):Str:=⟨l.toArray⟩
def ug (z:Str):S z.cps.toList=z:=by cases z;simp [S]
def ad (x y:Str) (h:x.length+y.length<=1000000) (st:ae):zT (.str x) (.str y) st=.ok (.str (x++y)) st:=by
 rw [Pk,zF h]
def kS {α:Type}{l:List α}{i:Nat}{x:α}(h:l[i]?=some x):l.take (i+1)=l.take i++[x]:=by
 obtain ⟨hi,e⟩:=yl.mp h
 rw [<-e,List.take_append_getElem]
theorem uh {g:PV->zj->Option zj}{body:Aj}{n:Nat}(xs:An) (I:Nat->zj->ae->Prop) (at_:∀i e st,I i e st->st[n]?=some (.lst xs)) (step:∀i x e st,xs[i]?=some x->I i e st->∃e1 e2 ax,g x e=some e1/\body e1 st=.ok (.nx e2) ax/\I (i+1) e2 ax) :
  ∀(k i m:Nat) (env:zj) (st:ae),i+k=xs.length->k<m->I i env st->∃bp bA,forR g body n m i env st=.ok (.nx bp) bA/\I xs.length bp bA
 | 0,i,m,env,st,hk,hm,h=>by
  obtain ⟨m,rfl⟩:∃j,m=j+1:=⟨m-1,by omega⟩
  refine ⟨env,st,?_,by rw [<-hk];exact h⟩
  unfold forR
  rw [yD (at_ _ _ _ h),rS (by omega)]
 | k+1,i,m,env,st,hk,hm,h=>by
  obtain ⟨m,rfl⟩:∃j,m=j+1:=⟨m-1,by omega⟩
  have hx:xs[i]?=some (xs[i]'(by omega)):=yB (by omega)
  obtain ⟨e1,e2,ax,q1,q2,q3⟩:=step i _ env st hx h
  obtain ⟨bp,bA,r,h2⟩:=uh xs I at_ step k (i+1) m e2 ax (by omega) (by omega) q3
  refine ⟨bp,bA,?_,h2⟩
  unfold forR
  rw [yD (at_ _ _ _ h),hx]
  simp only
  rw [q1]
  simp only
  rw [q2]
  simp only [zJ]
  exact r
def aU {α:Type}{l:List α}{k:Nat}{x:α}(h:l[k]?=some x):cY l (k:Int)=some x:=by
 have:=(yl.mp h).1
 have e:=(yl.mp h).2
 simp [cY,ko,this,e]
def G4 (st:ae):gm (.int 10) (.int 9) st=.ok (.int 1000000000) st:=by
 have cp:dD 10 9=true:=by decide
 have pw:((10:Int) ^ (9:Int).toNat)=1000000000:=by decide
 show (if dD 10 9=true then Res.ok (PV.int (10 ^ (9:Int).toNat)) st else .stuck)=_
 rw [zF cp,pw]
def kT {i j:Int}(b:Bool) (h:decide (i<j)=b) (st:ae):wR (.int i) (.int j) st=.ok (.bl b) st:=by rw [Az,h]
def bJ {i j:Int}(b:Bool) (h:decide (i=j)=b) (st:ae):yi (.int i) (.int j) st=.ok (.bl b) st:=by rw [AA,h]
def lN {i j:Int}(b:Bool) (h:decide (j<i)=b) (st:ae):iQ (.int i) (.int j) st=.ok (.bl b) st:=by rw [Q2,h]
noncomputable def mX (j:Nat):Nat:=(mW.cps.toList[j]?).getD 0
theorem SW (j:Nat) (hj:j<26) (st:ae):zt (.str mW) (.int j) st=.ok (.str ⟨#[mX j]⟩) st/\mX j∈mW.cps.toList:=by
 have hz:mW.cps.toList.length=26:=by decide +kernel
 have lt:j<mW.cps.toList.length:=by omega
 have hl:mW.length<=1000000:=by decide +kernel
 have e:mW.cps.toList[j]?=some (mX j):=by unfold mX;rw [yB lt];rfl
 refine ⟨?_,jV e⟩
 rw [EK,PH,zF hl,aU e]
 rfl
def SX {n i:Nat}{x:PV}(h:(nums 0 n)[i]?=some x):i<n/\x=.int (i:Int):=by
 unfold nums at h
 rw [yI] at h
 cases e:(List.range n)[i]? with
 | none=>rw [e] at h;cases h
 | some j =>
  rw [e] at h
  obtain ⟨h1,h2⟩:=yl.mp e
  rw [List.getElem_range] at h2
  rw [List.length_range] at h1
  cases h
  exact ⟨h1,by subst h2;simp⟩
def Bf (n:Nat):(nums 0 n).length=n:=by simp [nums]
def SY (m:Nat) (st:ae) (h:m<=1000):mF [.int (m:Int)] st=.ok (.im (nums 0 m)) st:=by
 have hr:cR (m:Int)=true:=by simp [cR];omega
 rw [Qf,zF hr];simp
theorem Bh {fe:Ai}{fs:Ah}{env:zj}{st s0:ae}(n:Nat) (hn:n<=1000) (hf:fs env st=.ok [.int (n:Int)] s0) (I:Nat->List PV->ae->Prop) (step:∀i ys st,i<n->I i ys st->∃y ao,fe (Au i::env) st=.ok y ao/\I (i+1) (ys++[y]) ao) (h0:I 0 [] s0) :
  ∃ly bA,(jD (bo fs) fe) env st=.ok (.ref bA.length) (bA++[.lst ly])/\I n ly bA:=by
 obtain ⟨ys,s1,C,h⟩:=uf (fe:=fe) (env:=env) (nums 0 n) I (λi x ys st hx h=>by
  obtain ⟨hi,rfl⟩:=SX hx
  exact step i ys st hi h) n 0 [] s0 (by rw [Bf];omega) h0
 rw [Bf] at h
 refine ⟨ys,s1,?_,h⟩
 rw [lH,EL,hf,zJ,SY n _ hn,zJ,lI,zF (by rw [Bf];simp [lim];omega)]
 exact C
theorem S0:("" : Str).length=0:=by decide +kernel
theorem uk {fo fi fv:Ai}{e:zj}{s s1:ae}{r:Nat}{z:Str}{x:PV}{ks:Ad}{xs:An}(hv:fv e s=.ok x s1) (ho:fo e s1=.ok (.ref r) s1) (hi:fi e s1=.ok (.str z) s1) (hr:s1[r]?=some (.dic ks xs)) (hl:ks.length<=1000) :
  iT fo fi fv e s=.ok (.nx e) (s1.set r (.dic (wL z x ks xs).1 (wL z x ks xs).2)):=by
 unfold iT
 rw [hv,zJ,ho,zJ,hi,zJ]
 show (jY s1 r _).bind _=_
 rw [QV hr,zF (by simp [lim];omega),zJ]
def kU {fs:Ah}{gt:PV->zj->Option zj}{body:Aj}{e:zj}{st s0:ae}(I:Nat->zj->ae->Prop) (n:Nat) (hn:n<=1000) (hf:fs e st=.ok [.int (n:Int)] s0) (step:∀i e st,i<n->I i e st->∃e1 e2 ax,gt (.int (i:Int)) e=some e1/\body e1 st=.ok (.nx e2) ax/\I (i+1) e2 ax) (h0:I 0 e s0) :
  ∃e' s',yU (bo fs) gt body e st=.ok (.nx e') s'/\I n e' s':=by
 obtain ⟨e',s',F,h⟩:=G3 (g:=gt) (body:=body) I n step n 0 e s0 (by omega) h0
 refine ⟨e',s',?_,h⟩
 rw [gX,EL,hf,zJ,SV n _ hn,zJ,Pz]
 exact F
theorem S3 {z:Str}{i c:Nat}(hl:z.length<=1000) (h:z.cps.toList[i]?=some c) (st:ae):zt (.str z) (.int (i:Int)) st=.ok (.str ⟨#[c]⟩) st:=by
 rw [EK,zF (by simp [lim];omega),aU h]
 rfl
theorem S4 (c:Nat) (m:Nat) (hm:0<m):jH (c:Int) (m:Int)=((c/m:Nat):Int):=by rw [G1 _ _ (by omega)];exact (Int.natCast_ediv c m).symm
def S5 (c:Nat) (m:Nat) (hm:0<m):jc (c:Int) (m:Int)=((c%m:Nat):Int):=by rw [ue _ _ (by omega)];exact (Int.natCast_emod c m).symm
theorem ib {st:ae}(c m:Nat) (hm:0<m) (h2:m<2 ^ 60):yG (.int (c:Int)) (.int (m:Int)) st=.ok (.int ((c/m:Nat):Int)) st:=by rw [wA _ _ (by omega) (by omega),S4 c m hm]
def jU {st:ae}(c m:Nat) (hm:0<m):zY (.int (c:Int)) (.int (m:Int)) st=.ok (.int ((c%m:Nat):Int)) st:=by rw [jk _ _ (by omega),S5 c m hm]
def yY {st:ae}(a b:Nat):zT (.int (a:Int)) (.int (b:Int)) st=.ok (.int ((a+b:Nat):Int)) st:=by rw [tS];congr 2
theorem gq {st:ae}(a b:Nat) (h:a<2 ^ 60\/b<2 ^ 60):jo (.int (a:Int)) (.int (b:Int)) st=.ok (.int ((a*b:Nat):Int)) st:=by
 rw [Q4 _ _ (by simp only [gR,Bool.or_eq_true,w9,iE];exact h.elim (λh=>.inl ⟨by omega,by omega⟩) (λh=>.inr ⟨by omega,by omega⟩))]
 congr 2
def Bi {α:Type}{l:List α}(nd:l.Nodup) {i j:Nat}(hi:i<l.length) (hj:j<l.length) (h:l[i]=l[j]):i=j:=by
 have p:=List.pairwise_iff_getElem.mp nd
 rcases Nat.lt_trichotomy i j with q|q|q
 ·exact absurd h (p i j hi hj q)
 ·exact q
 ·exact absurd h.symm (p j i hj hi q)
def S6 {i j:Nat}{f:Ai}{e:zj}{st s1:ae}{x y:PV}(h:f e st=.ok (.tup [x,y]) s1):qp (g2 i j) f e st=.ok (.nx ((e.set i (some x)).set j (some y))) s1:=by
 unfold qp
 rw [h,zJ]
 rfl
def yL {f fa fb:Ai}{e:zj}{st s1 s2 s3:ae}{x y z:PV}(h:f e st=.ok x s1) (h':fa e s1=.ok y s2) (h2:fb e s2=.ok z s3):zd f (zd fa (zd fb zm)) e st=.ok [x,y,z] s3:=wX h (zX h' h2)
def jE {f fa fb fc:Ai}{e:zj}{st s1 s2 s3 s4:ae}{x y z w:PV}(h:f e st=.ok x s1) (h':fa e s1=.ok y s2) (h2:fb e s2=.ok z s3) (h3:fc e s3=.ok w s4):zd f (zd fa (zd fb (zd fc zm))) e st=.ok [x,y,z,w] s4:=wX h (yL h' h2 h3)
theorem kW {s:ae}{n:Nat}{xs:An}{y:PV}(h:s[n]?=some (.lst xs)) (hl:xs.length<=100000):yR (.ref n) y s=.ok .non (s.set n (.lst (xs++[y]))):=by rw [EN,yD h,zF (by simp [lim];omega)]
def S7 {s:ae}{n:Nat}{xs:An}(h:s[n]?=some (.lst xs)):gZ [.ref n] s=.ok (.ref s.length) (s++[.lst xs]):=by
 simp only [gZ,h]
 show yx s n _=_
 rw [yD h]
def S8 {s:ae}{xs:An}:gZ [.tup xs] s=.ok (.ref s.length) (s++[.lst xs]):=by
 show qm [.tup xs] s=_
 rfl
def yK {x:PV}{r:An}{st:ae}:zt (.tup (x::r)) (.int 0) st=.ok x st:=by
 have e:=aU (l:=x::r) (k:=0) (x:=x) rfl
 exact (congrArg (λz=>b_ z st) e).trans rfl
def yZ {x y:PV}{r:An}{st:ae}:zt (.tup (x::y::r)) (.int 1) st=.ok y st:=by
 have e:=aU (l:=x::y::r) (k:=1) (x:=y) rfl
 exact (congrArg (λz=>b_ z st) e).trans rfl
def jI {x y z:PV}{r:An}{st:ae}:zt (.tup (x::y::z::r)) (.int 2) st=.ok z st:=by
 have e:=aU (l:=x::y::z::r) (k:=2) (x:=z) rfl
 exact (congrArg (λz=>b_ z st) e).trans rfl
def wC {x y z w:PV}{r:An}{st:ae}:zt (.tup (x::y::z::w::r)) (.int 3) st=.ok w st:=by
 have e:=aU (l:=x::y::z::w::r) (k:=3) (x:=w) rfl
 exact (congrArg (λz=>b_ z st) e).trans rfl
def iZ {xs ys:An}{st:ae}(h:xs.length+ys.length<=1000000):zT (.tup xs) (.tup ys) st=.ok (.tup (xs++ys)) st:=by
 show (if xs.length+ys.length<=lim then _ else _)=_
 rw [zF (by simpa [lim] using h)]
def eqs (a b:Str) (c:Bool) (h:decide (a=b)=c) (st:ae):yi (.str a) (.str b) st=.ok (.bl c) st:=by rw [Q3,h]
def q8 (a b:Str) (c:Bool) (h:(a==b)=c) (st:ae):wT (.str a) (.str b) st=.ok (.bl c) st:=by
 unfold wT
 rw [show eqT st 150 (.str a) (.str b)=some c by show some (a==b)=_;rw [h]]
def oU {s:ae}{m n:Nat}{xs ys:An}(h:s[m]?=some (.lst xs)) (h':s[n]?=some (.lst ys)) (hl:xs.length+ys.length<=1000000):zT (.ref m) (.ref n) s=.ok (.ref s.length) (s++[.lst (xs++ys)]):=by
 show yx s m _=_
 rw [yD h,yD h']
 exact zF (by simpa [lim] using hl)
theorem n1:("let" : Str) ≠ "call" := by decide +kernel
theorem n2:("let" : Str) ≠ "go" := by decide +kernel
theorem n3:("give" : Str) ≠ "call" := by decide +kernel
theorem n4:("give" : Str) ≠ "go" := by decide +kernel
theorem n5:("fail" : Str) ≠ "call" := by decide +kernel
theorem n6:("fail" : Str) ≠ "go" := by decide +kernel
theorem n7:("go" : Str) ≠ "call" := by decide +kernel
theorem n8:("if" : Str) ≠ "call" := by decide +kernel
theorem n9:("if" : Str) ≠ "go" := by decide +kernel
theorem uo:("give" : Str) ≠ "let" := by decide +kernel
theorem Bj:("fail" : Str) ≠ "let" := by decide +kernel
theorem uq:("go" : Str) ≠ "let" := by decide +kernel
theorem G5:("if" : Str) ≠ "let" := by decide +kernel
def dA {a b:Str}(h:a≠b) (st:ae):yi (.str a) (.str b) st=.ok (.bl false) st:=eqs a b false (by simpa using h) st
def eK {a:Str}(st:ae):yi (.str a) (.str a) st=.ok (.bl true) st:=eqs a a true (by simp) st
def q0 {z y:Str}{c:Bool}{e:zj}{r:An}{s:ae}{i:Nat}(hi:e[i]?=some (some (.tup (.str z::r)))) (h:yi (.str z) (.str y) s=.ok (.bl c) s):(mB (ze yi (ze zt (zc i) (Ar 0)) (As y))) e s=.ok c s:=zW (zo (zo (zf hi) rfl yK) rfl h)
def oV (z:Str) (c:Bool) (h:((("let" : Str)==z)||(("call" : Str)==z))=c) (st:ae):yS false (.str z) (.tup [.str "let", .str "call"]) st=.ok (.bl c) st:=by
 rw [Qk,zF ⟨rfl,rfl,by simp [dk,dep]⟩]
 simp [bz,h]
theorem Bl {ft:Ak}{fe:Ai}{env:zj}{st:ae}{n:Nat}{p:PV->Bool}{f:PV->PV}(xs:An) (hn:st[n]?=some (.lst xs)) (h:∀x∈xs,ft (some x::env) st=.ok (p x) st) (h':∀x∈xs,p x=true->fe (some x::env) st=.ok (f x) st):∀(k i m:Nat) (ys:An),i+k=xs.length->k<m->dQ ft fe env n m i ys st=.ok (.ref st.length) (st++[.lst (ys++(xs.drop i).flatMap λx=>if p x=true then [f x] else [])])
 | 0,i,m,ys,hk,hm=>by
  obtain ⟨m,rfl⟩:∃j,m=j+1:=⟨m-1,by omega⟩
  unfold dQ
  rw [yD hn,rS (by omega),iD (by omega)]
  simp
 | k+1,i,m,ys,hk,hm=>by
  obtain ⟨m,rfl⟩:∃j,m=j+1:=⟨m-1,by omega⟩
  have hi:i<xs.length:=by omega
  have hx:xs[i]?=some (xs[i]'hi):=yB hi
  have mem:=wP hi
  have ih:=Bl (ft:=ft) (fe:=fe) (env:=env) xs hn h h' k (i+1) m
  unfold dQ
  rw [yD hn,hx]
  simp only
  rw [h _ mem]
  simp only [mG,zJ]
  rw [j8 hi,rR]
  cases hp:p (xs[i]'hi) with
  | true =>
   simp only [iB]
   rw [h' _ mem hp]
   simp only [mG,zJ]
   rw [ih _ (by omega) (by omega)]
   simp
  | false =>
   rw [zR (by simp),ih _ (by omega) (by omega)]
   simp
theorem dg {g:PV->zj->Option zj}{body:Aj}(xs:An) (I:Nat->zj->ae->Prop) (step:∀i x e st,xs[i]?=some x->I i e st->∃e1 e2 ax,g x e=some e1/\body e1 st=.ok (.nx e2) ax/\I (i+1) e2 ax) :
  ∀(k i:Nat) (env:zj) (st:ae),i+k=xs.length->I i env st->∃bp bA,forL g body (xs.drop i) env st=.ok (.nx bp) bA/\I xs.length bp bA
 | 0,i,env,st,hk,h=>⟨env,st,by rw [iD (by omega)];rfl,by rw [<-hk];exact h⟩
 | k+1,i,env,st,hk,h=>by
  have hx:xs[i]?=some (xs[i]'(by omega)):=yB (by omega)
  obtain ⟨e1,e2,ax,q1,q2,q3⟩:=step i _ env st hx h
  obtain ⟨bp,bA,r,h2⟩:=dg xs I step k (i+1) e2 ax (by omega) q3
  refine ⟨bp,bA,?_,h2⟩
  rw [j8 (by omega)]
  unfold forL
  rw [q1]
  simp only
  rw [q2]
  simp only [zJ]
  exact r
def G6 {s:ae}{n:Nat}{xs:An}{y:PV}(h:s[n]?=some (.lst xs)) (hl:xs.length<1000000):yR (.ref n) y s=.ok .non (s.set n (.lst (xs++[y]))):=by rw [EN,yD h,zF (by simpa [lim] using hl)]
theorem gr (c:Int) (t m:Nat) (ht:t<=1000) (hm:0<m) (st:ae):∃j:Nat,j<m/\jT [.int c,.int (t:Int),.int (m:Int)] st=.ok (.int (j:Int)) st:=by
 obtain ⟨a,ha,ea⟩:=bG c 1000003 (by decide)
 have ea:jc c 1000003=(a:Int):=ea
 obtain ⟨b,hb,eb⟩:=bG ((a*(48271+2*t)+7919*t:Nat):Int) 999983 (by decide)
 obtain ⟨j,hj,ej⟩:=bG (b:Int) m hm
 refine ⟨j,hj,yf rfl (yh (zo (zo (zo (zo (zo (zf rfl) rfl ((jk _ _ (by decide)).trans (by rw [ea]))) (zo rfl (zo rfl (zf rfl) (gq 2 t (.inl (by decide)))) (yY 48271 _)) (gq a _ (.inl (by omega)))) (zo rfl (zf rfl) (gq 7919 t (.inl (by decide)))) (yY _ _)) rfl ((jk _ _ (by decide)).trans ?_)) (zf rfl) ((jk _ _ (by omega)).trans (by rw [ej]))))⟩
 have:jc ((a*(48271+2*t)+7919*t:Nat):Int) 999983=(b:Int):=eb
 rw [this]
def S9 (is:List Int):dM (is.map PV.int)=some is:=by
 induction is with
 | nil=>rfl
 | cons i r ih=>simp [dM,ih]
theorem i6 (ns:List Int) (k:Nat) (h9:k<1000) (st:ae):∃c s1,jp [.frl (ns.map PV.int),.int (k:Int)] st=.ok (.int c) s1/\Old st s1:=by
 by_cases hk:(k:Int)<ns.length
 ·have:cY (ns.map PV.int) k=some (.int (ns[k]'(by omega))):=aU (by rw [yI,yB (by omega)];rfl)
  simp only [jp,ym,AW,AV,AU]
  simp [this]
  rw [zF (by omega)]
  exact ⟨_,_,rfl,Old.refl _⟩
 ·have hc:cy (List.map PV.int ns) none (some 63)=(ns.take 63).map PV.int:=by
   simp [cy,HT.sIx,List.map_take]
  have h1:gR 977 k=true:=by simp [gR]
  simp only [jp,ym,AW,AV,AU]
  have hi:dM (List.take 63 (ns.map PV.int))=some (ns.take 63):=by rw [<-List.map_take];exact S9 _
  have gY:¬k<ns.length:=by omega
  simp [gY,hc,hi,h1,xv]
  generalize hx:jc ((ns.take 63).sum+977*(k:Int)+13) 1000003=x
  have S_ : -18446744073709551616<x/\x<18446744073709551616:=by
   rw [ue _ _ (by decide)] at hx
   have:=Int.emod_nonneg ((ns.take 63).sum+977*(k:Int)+13) (show (1000003:Int)≠0 by decide)
   have:=Int.emod_lt_of_pos ((ns.take 63).sum+977*(k:Int)+13) (show (0:Int)<1000003 by decide)
   constructor<;>omega
  rw [zF S_]
  exact ⟨_,_,rfl,yb _ _⟩
noncomputable abbrev sg:Str := "abcdefghijklmnopqrstuvwxyz0123456789"
theorem Ta:sg.cps.toList.length=36:=by decide +kernel
noncomputable def i7 (j:Nat):Nat:=(sg.cps.toList[j]?).getD 0
theorem G7 (j:Nat) (h:j<36) (st:ae):zt (.str sg) (.int (j:Int)) st=.ok (.str ⟨#[i7 j]⟩) st:=S3 (by decide +kernel) (by unfold i7;rw [yB (by rw [Ta];exact h)];rfl) st
theorem Tb:∀i,i<36->∀j,j<36->i7 i=i7 j->i=j:=by decide +kernel
structure Nm (c:Nat) (nm:Nat->Str):Prop where
 one:∀i j:Nat,(c%4≠2->i<20/\j<20)->nm i=nm j->i=j
 at_:∀k:Nat,k<1000->∀st,∃s1,wB [.int (c:Int),.int (k:Int)] st=.ok (.str (nm k)) s1/\Old st s1
noncomputable def ur:Ad:=["of", "is", "let", "call", "go", "if", "give", "fail", "else", "end", "fun", "add", "head", "rest", "item"]
noncomputable def mY:Ad:=["of", "is", "let", "call", "go", "if", "give", "fail", "else", "end", "fun", "add", "head", "rest", "item", "kind", "same", "put", "field", "many"]
theorem Tc:mY.Nodup:=by decide +kernel
theorem G8 (n:Nat) (h:n<2000000):(n:Int).natAbs.log2<1920:=by
 have h1:n<2 ^ 21:=by
  have:(2:Nat) ^ 21=2097152:=by decide
  omega
 rw [Int.natAbs_natCast]
 by_cases hz:n=0
 ·rw [hz];decide
 ·have:=(Nat.log2_lt hz).mpr h1
  omega
noncomputable def kX (n:Nat):Str:=Str.ofString (toString (n:Int))
def G9 {i j:Nat}(h:kX i=kX j):i=j:=by
 unfold kX at h
 have h:=(PF _ _).mp h
 have h:Nat.repr i=Nat.repr j:=h
 exact Nat.repr_injective h
theorem G_ (n:Nat) (h:n<2000000):(kX n).length<=2000:=by
 have e:=int_text_length_le (a:=(n:Int)) (k:=1920) (by decide) (G8 n h)
 unfold kX
 rw [ofString_length]
 omega
def Ha (n:Nat) (h:n<2000000) (st:ae):mJ [.int (n:Int)] st=.ok (.str (kX n)) st:=by
 rw [Qg,zF (G8 n h)];rfl
def Bm {a:Str}{x y:Str}(h:a++x=a++y):x=y:=by
 have:=congrArg (λz:Str=>z.cps.toList) h
 simp only [PySem.Str.cps_append,Array.toList_append] at this
 have:=List.append_cancel_left this
 rw [<-ug x,<-ug y,this]
def Td {a x y:Str}(h:x++a=y++a):x=y:=by
 have:=congrArg (λz:Str=>z.cps.toList) h
 simp only [PySem.Str.cps_append,Array.toList_append] at this
 have:=List.append_cancel_right this
 rw [<-ug x,<-ug y,this]
def Hb {i j:Nat}(hi:i<36) (hj:j<36) (h:(⟨#[i7 i]⟩:Str)=⟨#[i7 j]⟩):i=j:=by
 injection h with h
 have:i7 i=i7 j:=by simpa using h
 exact Tb i hi j hj this
def uv {c k:Nat}{st:ae}{X:Res Fl}(h:A4 [Au c,Au k,At st.length,some (.str sg),none] (st++[.lst (ur.map PV.str)])=X):GK [Au c,Au k,none,none,none] st=X:=zy (zN (jz (xs:=ur.map PV.str) rfl (by decide))) (zy (zN rfl) h)
theorem Bn (c:Nat) (hb:c<2 ^ 50):∃nm,Nm c nm:=by
 have e4:∀s:ae,zY (.int (c:Int)) (.int 4) s=.ok (.int ((c%4:Nat):Int)) s:=λs=>jU c 4 (by decide)
 have d4:∀s:ae,yG (.int (c:Int)) (.int 4) s=.ok (.int ((c/4:Nat):Int)) s:=λs=>ib c 4 (by decide) (by decide)
 by_cases c0:c%4=0
 ·refine ⟨λk=>⟨#[i7 ((c/4+k)%26)]⟩,λi j cx h=>?_,λk hk st=>⟨_,yf rfl (uv (jf (yJ (zW (zo (zo (zf rfl) rfl (e4 _)) rfl (bJ true (by simp;omega) _))) (yh (zo (zf rfl) (zo (zo (zo (zf rfl) rfl (d4 _)) (zf rfl) (yY _ _)) rfl (jU _ 26 (by decide))) (G7 _ (by have:=jX (c/4+k) (show 0<26 by decide);omega) _)))))),yb _ _⟩⟩
  have cx:=cx (by omega)
  have:=Hb (by have:=jX (c/4+i) (show 0<26 by decide);omega) (by have:=jX (c/4+j) (show 0<26 by decide);omega) h
  omega
 have S1:∀{k:Nat} {st s:ae} {X:Res Fl},A3 [Au c,Au k,At st.length,some (.str sg),none] s=X->A4 [Au c,Au k,At st.length,some (.str sg),none] s=X:=λh=>zy (yu (zW (zo (zo (zf rfl) rfl (e4 _)) rfl (bJ false (by simp;omega) _)))) h
 by_cases c1:c%4=1
 ·generalize ep:c/4%7=p
  have hp:p<7:=by rw [<-ep];exact jX _ (by decide)
  have l7:("7" : Str).length=1:=by decide +kernel
  have le:("e" : Str).length=1:=by decide +kernel
  have lu:("u" : Str).length=1:=by decide +kernel
  have sb:(6:Int)-(p:Int)=((6-p:Nat):Int):=by omega
  have r1:∀s:ae,jo (.str "7") (.int (p:Int)) s=.ok (.str (ck "7" (p:Int))) s:=λs=>by rw [EM,zF ⟨by omega,by omega,by rw [l7];decide⟩]
  have r2:∀s:ae,jo (.str "e") (.int ((6-p:Nat):Int)) s=.ok (.str (ck "e" ((6-p:Nat):Int))) s:=λs=>by rw [EM,zF ⟨by omega,by omega,by rw [le];decide⟩]
  have z1:(ck "7" (p:Int)).length<=10:=by rw [x5,l7];omega
  have z2:(ck "e" ((6-p:Nat):Int)).length<=10:=by rw [x5,le];omega
  have z3:("u" ++ ck "7" (p:Int):Str).length<=20:=by rw [strLen_append,lu];omega
  refine ⟨λk=>("u" ++ ck "7" (p:Int))++⟨#[i7 ((c/28+k)%36)]⟩++ck "e" ((6-p:Nat):Int),λi j cx h=>?_,λk hk st=>⟨_,yf rfl (uv (S1 (jf (yJ (zW (zo (zo (zf rfl) rfl (e4 _)) rfl (bJ true (by simp;omega) _))) (zy (zN (zo (zo (zf rfl) rfl (d4 _)) rfl ((jU _ 7 (by decide)).trans (by rw [ep])))) (yh (zo (zo (zo rfl (zo rfl (zf rfl) (r1 _)) (ad _ _ (by omega) _)) (zo (zf rfl) (zo (zo (zo (zf rfl) rfl (ib c 28 (by decide) (by decide))) (zf rfl) (yY _ _)) rfl (jU _ 36 (by decide))) (G7 _ (jX _ (by decide)) _)) (ad _ _ ?_ _)) (zo rfl (zo rfl (zf rfl) ((g_ _ _).trans (by rw [sb]))) (r2 _)) (ad _ _ ?_ _)))))))),yb _ _⟩⟩
  ·have cx:=cx (by omega)
   have:=Hb (jX _ (by decide)) (jX _ (by decide)) (Bm (Td h))
   omega
  ·show ("u" ++ ck "7" (p:Int):Str).length+1<=_
   omega
  ·rw [strLen_append]
   show ("u" ++ ck "7" (p:Int):Str).length+1+_<=_
   omega
 have S2:∀{k:Nat} {st s:ae} {X:Res Fl},GJ [Au c,Au k,At st.length,some (.str sg),none] s=X->A3 [Au c,Au k,At st.length,some (.str sg),none] s=X:=λh=>zy (yu (zW (zo (zo (zf rfl) rfl (e4 _)) rfl (bJ false (by simp;omega) _)))) h
 by_cases c2:c%4=2
 ·have ln:("n" : Str).length=1:=by decide +kernel
  have h9:c/4%900000<900000:=jX _ (by decide)
  refine ⟨λk => "n" ++ kX (c/4%900000+k),λi j cx h=>?_,λk hk st=>⟨_,yf rfl (uv (S1 (S2 (jf (yJ (zW (zo (zo (zf rfl) rfl (e4 _)) rfl (bJ true (by simp;omega) _))) (yh (zo rfl (zD (zM (zo (zo (zo (zf rfl) rfl (d4 _)) rfl (jU _ 900000 (by decide))) (zf rfl) (yY _ _))) (Ha _ (by omega) _)) (ad _ _ (by have:=G_ (c/4%900000+k) (by omega);omega) _)))))))),yb _ _⟩⟩
  have:=G9 (Bm h)
  omega
 ·have hg:∀k,(c/4+k)%20<mY.length:=λk=>jX _ (by decide)
  refine ⟨λk=>mY[(c/4+k)%20]'(hg k),λi j cx h=>?_,λk hk st=>?_⟩
  ·have cx:=cx c2
   have:=Bi Tc (hg i) (hg j) h
   omega
  let s1:=st++[SO.lst (ur.map PV.str)]
  let w5:Ad:=["kind", "same", "put", "field", "many"]
  let s2:=s1++[SO.lst (w5.map PV.str)]
  have A:zT (.ref st.length) (.ref s1.length) s2=.ok (.ref s2.length) (s2++[.lst (mY.map PV.str)]):=oU (xs:=ur.map PV.str) (ys:=w5.map PV.str) (yb _ _ _ _ (yt _ _)) (yt _ _) (by decide)
  have g:cY (mY.map PV.str) ((((c/4+k)%20:Nat)):Int)=some (.str (mY[(c/4+k)%20]'(hg k))):=aU (by rw [yI,yB (hg k)];rfl)
  exact ⟨s2++[.lst (mY.map PV.str)],yf rfl (uv (S1 (S2 (zy (yu (zW (zo (zo (zf rfl) rfl (e4 _)) rfl (bJ false (by simp;omega) _)))) (yh (zo (zo (zf rfl) (jz (xs:=w5.map PV.str) rfl (by decide)) A) (zo (zo (zo (zf rfl) rfl (d4 _)) (zf rfl) (yY _ _)) rfl (jU _ 20 (by decide))) (by rw [mK,yD (yt _ _),g];rfl))))))),(yb _ _).trans ((yb _ _).trans (yb _ _))⟩
noncomputable def wq (c:Int):Nat->Int×Str
 | 0=>(c,"")
 | i+1=>(jH (wq c i).1 5,(wq c i).2++⟨#[mX (jc (wq c i).1 26).toNat]⟩)
theorem Hc (c:Int):∀i,(wq c i).2.length=i
 | 0=>S0
 | i+1=>by
  show ((wq c i).2++_:Str).length=_
  rw [strLen_append,Hc c i]
  rfl
theorem uw (c:Int):∃z,∀st,ia [.int c] st=.ok (.str z) st:=by
 obtain ⟨n,hn,en⟩:=bG c 8 (by decide)
 have en:jc c 8=(n:Int):=en
 refine ⟨(wq c (1+n)).2,λst=>?_⟩
 obtain ⟨e',s',F,⟨z2,he⟩,hs⟩:=kU (gt:=gN 2) (body:=(zw (zG 1 (ze zT (zc 1) (ze zt (As "abcdefghijklmnopqrstuvwxyz") (ze zY (zc 0) (Ar 26))))) (zG 0 (ze yG (zc 0) (Ar 5))))) (fs:=(zd (ze zT (Ar 1) (ze zY (zc 0) (Ar 8))) zm)) (e:=[some (.int c),some (.str ""),none]) (st:=st) (λi e s=>(∃z2,e=[some (.int (wq c i).1),some (.str (wq c i).2),z2])/\s=st) (1+n) (by omega) (zM (zo rfl (zo (zf rfl) rfl ((jk _ _ (by decide)).trans (by rw [en]))) (yY 1 n))) (λi e s hi ⟨⟨z2,he⟩,hs⟩=>by
  subst he
  have hz:=Hc c i
  obtain ⟨j,hj,ej⟩:=bG (wq c i).1 26 (by decide)
  have ej:jc (wq c i).1 26=(j:Int):=ej
  have L:=(SW j hj s).1
  have e2:wq c (i+1)=(jH (wq c i).1 5,(wq c i).2++⟨#[mX j]⟩):=by
   show (_,_++(⟨#[mX (jc (wq c i).1 26).toNat]⟩:Str))=_
   rw [ej];rfl
  rw [e2]
  exact ⟨[some (.int (wq c i).1),some (.str (wq c i).2),Au i],_,s,rfl,zy (zN (zo (zf rfl) (zo rfl (zo (zf rfl) rfl ((jk _ _ (by decide)).trans (by rw [ej]))) L) (ad _ _ (show (wq c i).2.length+1<=_ by omega) _))) (zN (zo (zf rfl) rfl (wA _ _ (by decide) (by decide)))),⟨_,rfl⟩,hs⟩) ⟨⟨none,rfl⟩,rfl⟩
 subst he hs
 exact yf rfl (zy (zN rfl) (zy F (yh (zf rfl))))
def Hd (st:ae):gm (.int 10) (.int 24) st=.ok (.int 1000000000000000000000000) st:=by
 have cp:dD 10 24=true:=by decide
 have pw:((10:Int) ^ (24:Int).toNat)=1000000000000000000000000:=by decide
 show (if dD 10 24=true then Res.ok (PV.int (10 ^ (24:Int).toNat)) st else .stuck)=_
 rw [zF cp,pw]
theorem Te {fa fb fc fd:Ai}{e:zj}{st:ae}{a b:Str}{x y:PV}(ha:∀s,fa e s=.ok (.str a) s) (hx:∀s,fb e s=.ok x s) (hb:∀s,fc e s=.ok (.str b) s) (hy:∀s,fd e s=.ok y s):∃s1,qI [(fa,fb),(fc,fd)] e st=.ok (.ref st.length) s1/\Old st s1:=by
 have K:tP [(fa,fb),(fc,fd)] e (st++[SO.dic [] []])=.ok ([.str a,.str b],[x,y]) (st++[SO.dic [] []]):=by
  show (fa e _).bind _=_
  rw [ha,zJ]
  simp only
  rw [hx,zJ]
  show Res.bind ((fc e _).bind _) _=_
  rw [hb,zJ]
  simp only
  rw [hy,zJ]
  rfl
 have e1:kL (st++[SO.dic [] []])[st.length]?=true:=by rw [yt];rfl
 have D:qI [(fa,fb),(fc,fd)] e st=.ok (.ref st.length) ((st++[SO.dic [] []]).set st.length (.dic (lG (([a,b]:Ad).zip [x,y]) [] []).1 (lG (([a,b]:Ad).zip [x,y]) [] []).2)):=by
  unfold qI
  rw [K,zJ]
  exact zF e1
 exact ⟨_,D,λn so h=>by rw [yA (by have:=yv h;omega)];exact yb _ _ _ _ h⟩
theorem Tf (c:Int) (st:ae):∃v s1,AX [.int c] st=.ok v s1/\Old st s1:=by
 generalize ea:jc c 1000000000000000000000000=a
 have A:∀{X:Res Fl},GB [some (.int a),some (.int (jH a 7))] st=X->GC [some (.int c),none] st=X:=λh=>zy (zN (zo (zf rfl) (zo rfl rfl (Hd _)) ((jk _ _ (by decide)).trans (by rw [ea])))) (zy (zN (zo (zf rfl) rfl (wA _ _ (by decide) (by decide)))) h)
 obtain ⟨w,hw,ew⟩:=bG a 7 (by decide)
 have ew:jc a 7=(w:Int):=ew
 generalize jH a 7=q at A
 have M7:∀s:ae,(ze zY (zc 0) (Ar 7)) [some (.int a),some (.int q)] s=.ok (.int (w:Int)) s:=λs=>zo (zf rfl) rfl ((jk _ _ (by decide)).trans (by rw [ew]))
 have md:∀(i:Int) (j:Int) (s:ae),j≠0->zY (.int i) (.int j) s=.ok (.int (jc i j)) s:=λi j s h=>jk i j h
 have T:∀(n:Int) (b:Bool) (s:ae),decide ((w:Int)=n)=b->(mB (ze yi (ze zY (zc 0) (Ar 7)) (Ar n))) [some (.int a),some (.int q)] s=.ok b s:=λn b s h=>zW (zo (M7 s) rfl (bJ b h _))
 obtain ⟨z1,w1⟩:=uw q
 obtain ⟨z2,w2⟩:=uw (jH q 3+1)
 obtain ⟨z3,w3⟩:=uw (jH q 9)
 have sk:∀{g:Aj} {h:Aj} {n:Int} {X:Res Fl},(w:Int)≠n->h [some (.int a),some (.int q)] st=X->zw (zZ (mB (ze yi (ze zY (zc 0) (Ar 7)) (Ar n))) g ye) h [some (.int a),some (.int q)] st=X:=λhn h=>zy (yu (T _ false _ (by simpa using hn))) h
 have tk:∀{f:Ai} {h:Aj} {n:Int} {v:PV} {s1:ae},(w:Int)=n->f [some (.int a),some (.int q)] st=.ok v s1->zw (zZ (mB (ze yi (ze zY (zc 0) (Ar 7)) (Ar n))) (zV f) ye) h [some (.int a),some (.int q)] st=.ok (.rt v) s1:=λhn h=>jf (yJ (T _ true _ (by simpa using hn)) (yh h))
 have Tg:w=0\/w=1\/w=2\/w=3\/w=4\/w=5\/w=6:=by omega
 rcases Tg with h|h|h|h|h|h|h
 ·exact ⟨_,st,yf rfl (A (tk (by omega) (zo (zf rfl) rfl (md _ _ _ (by decide))))),Old.refl _⟩
 ·exact ⟨_,st,yf rfl (A (sk (by omega) (tk (by omega) (zo (zo (zf rfl) rfl (md _ _ _ (by decide))) rfl (g_ _ _))))),Old.refl _⟩
 ·exact ⟨_,st,yf rfl (A (sk (by omega) (sk (by omega) (tk (by omega) (zD (zM (zf rfl)) (w1 _)))))),Old.refl _⟩
 ·exact ⟨_,st,yf rfl (A (sk (by omega) (sk (by omega) (sk (by omega) (tk (by omega) (ya jO (by simp))))))),Old.refl _⟩
 ·exact ⟨_,st,yf rfl (A (sk (by omega) (sk (by omega) (sk (by omega) (sk (by omega) (tk (by omega) (ya (yL (zo (zf rfl) rfl (md _ _ _ (by decide))) (ya (zX (zD (zM (zf rfl)) (w1 _)) (zo rfl (zo (zf rfl) rfl (md _ _ _ (by decide))) (g_ _ _))) (by simp)) (ya jO (by simp))) (by simp)))))))),Old.refl _⟩
 ·obtain ⟨s1,D,o⟩:=Te (fa:=(zu ia (zd (zc 1) zm))) (fb:=(ze zY (zc 1) (Ar 5))) (fc:=(zu ia (zd (ze zT (ze yG (zc 1) (Ar 3)) (Ar 1)) zm))) (fd:=(zE (zd (ze zY (zc 1) (Ar 3)) (zd (zu ia (zd (ze yG (zc 1) (Ar 9)) zm)) zm)))) (e:=[some (.int a),some (.int q)]) (st:=st) (λs=>zD (zM (zf rfl)) (w1 s)) (λs=>zo (zf rfl) rfl (md _ _ _ (by decide))) (λs=>zD (zM (zo (zo (zf rfl) rfl (wA _ _ (by decide) (by decide))) rfl (tS _ _))) (w2 s)) (λs=>ya (zX (zo (zf rfl) rfl (md _ _ _ (by decide))) (zD (zM (zo (zf rfl) rfl (wA _ _ (by decide) (by decide)))) (w3 s))) (by simp))
  exact ⟨_,s1,yf rfl (A (sk (by omega) (sk (by omega) (sk (by omega) (sk (by omega) (sk (by omega) (tk (by omega) D))))))),o⟩
 ·exact ⟨_,st,yf rfl (A (sk (by omega) (sk (by omega) (sk (by omega) (sk (by omega) (sk (by omega) (sk (by omega) (yh (zo (zf rfl) rfl (md _ _ _ (by decide))))))))))),Old.refl _⟩
inductive cm (ks:Ad):PV->Prop
 | of (z:Str):z∈ks->cm ks (.tup [.str "of", .str z])
 | is (v:PV):cm ks (.tup [.str "is", v])
def cm.mono {ks bT:Ad}(h:∀z∈ks,z∈bT) {a:PV}(t:cm ks a):cm bT a:=by
 cases t with
 | of z hz=>exact .of z (h z hz)
 | is v=>exact .is v
theorem Bo (c:Int) (t:Nat) (ht:t<=900) {zs:Ad}(hz:zs.length<=900) {sc:Nat}{st:ae}(hs:st[sc]?=some (.lst (zs.map PV.str))):∃a s1,oO [.int c,.int (t:Int),.ref sc] st=.ok a s1/\cm zs a/\Old st s1:=by
 obtain ⟨j,hj,ej⟩:=gr c t (zs.length+2) (by omega) (by omega) st
 have L:=wV hs
 rw [yM] at L
 have A:∀{X:Res Fl},GD [some (.int c),Au t,At sc,Au j] st=X->GG [some (.int c),Au t,At sc,none] st=X:=λh=>zy (zN (zD (yL (zf rfl) (zf rfl) (zo (zD (zM (zf rfl)) L) rfl (yY _ 2))) ej)) h
 by_cases h:j<zs.length
 ·have g:cY (zs.map PV.str) (j:Int)=some (.str (zs[j]'h)):=aU (by rw [yI,yB h];rfl)
  exact ⟨.tup [.str "of", .str (zs[j]'h)],st,yf rfl (A (jf (yJ (zW (zo (zf rfl) (zD (zM (zf rfl)) L) (kT true (by simp;omega) _))) (yh (ya (zX rfl (zo (zf rfl) (zf rfl) (by rw [mK,yD hs,g];rfl))) (by simp)))))),.of _ (wP h),Old.refl _⟩
 ·obtain ⟨b,hb,eb⟩:=bG c 1000000000000000000000000 (by decide)
  have eb:jc c 1000000000000000000000000=(b:Int):=eb
  obtain ⟨v,s1,ev,o⟩:=Tf ((b*(t+1)+t:Nat):Int) st
  exact ⟨.tup [.str "is", v],s1,yf rfl (A (zy (yu (zW (zo (zf rfl) (zD (zM (zf rfl)) L) (kT false (by simp;omega) _)))) (yh (ya (zX rfl (zD (zM (zo (zo (zo (zf rfl) (zo rfl rfl (Hd _)) ((jk _ _ (by decide)).trans (by rw [eb]))) (zo (zf rfl) rfl (yY t 1)) (gq b (t+1) (.inr (by omega)))) (zf rfl) (yY _ t))) ev)) (by simp))))),.is v,o⟩
theorem oW (c:Int) (m:Nat) (hm:m<=100) {zs:Ad}(hz:zs.length<=900) {sc:Nat}{st:ae}(hs:st[sc]?=some (.lst (zs.map PV.str))):∃as s1,kN [.int c,.int (m:Int),.ref sc] st=.ok (.tup as) s1/\as.length=m/\(∀a∈as,cm zs a)/\Old st s1:=by
 obtain ⟨ys,s1,C,⟨q1,q2⟩,q3⟩:=Bh (fe:=(zu oO (zd (zc 1) (zd (ze zT (Ar 4) (zc 0)) (zd (zc 3) zm))))) (fs:=(zd (zc 1) zm)) (env:=[some (.int c),Au m,At sc]) (st:=st) m (by omega) (zM (zf rfl)) (λi ys s=>(ys.length=i/\∀a∈ys,cm zs a)/\Old st s) (λi ys s hi ⟨⟨h1,h2⟩,h3⟩=>by
  obtain ⟨a,s1,e,ha,o⟩:=Bo c (4+i) (by omega) hz (h3 _ _ hs)
  refine ⟨a,s1,zD (yL (zf rfl) (zo rfl (zf rfl) (yY 4 i)) (zf rfl)) e,⟨by simp [h1],λb hb=>?_⟩,h3.trans o⟩
  rcases jG.mp hb with q|q
  ·exact h2 b q
  ·rw [jP.mp q];exact ha) ⟨⟨rfl,(λ_ h=>nomatch h)⟩,Old.refl _⟩
 exact ⟨ys,s1++[.lst ys],yf rfl (yh (zD (zM C) (by rw [wM,yD (yt _ _)]))),q1,q2,q3.trans (yb _ _)⟩
noncomputable def wZ:List (Str×Nat):=[("down", 1),("head", 1),("rest", 1),("item", 2),("field", 2),("add", 2),("sub", 2),("mul", 2),("div", 2),("rem", 2),("less", 2),("same", 2),("kind", 1),("front", 2),("many", 1),("put", 3),("set", 3)]
noncomputable abbrev c_ (l:List (Str×Nat)):An:=l.map λh=>.tup [.str h.1,.int (h.2:Int)]
theorem Bp:∀h∈wZ,1<=h.2/\h.2<=3:=by decide +kernel
theorem Th (k:Nat) (hk:k<100) (st:ae):∃h s1,h∈wZ/\AY [.int (k:Int)] st=.ok (.tup [.str h.1,.int (h.2:Int)]) s1/\Old st s1:=by
 let a:=c_ [("down", 1),("head", 1),("rest", 1),("item", 2),("field", 2),("add", 2),("sub", 2),("mul", 2)]
 let b:=c_ [("div", 2),("rem", 2),("less", 2),("same", 2),("kind", 1),("front", 2),("many", 1)]
 let d:=c_ [("put", 3),("set", 3)]
 let s1:=st++[SO.lst a]
 let s2:=s1++[SO.lst b]
 let s3:=s2++[SO.lst (a++b)]
 let s4:=s3++[SO.lst d]
 let s5:=s4++[SO.lst (c_ wZ)]
 have A1:zT (.ref st.length) (.ref s1.length) s2=.ok (.ref s2.length) s3:=oU (xs:=a) (ys:=b) (yb _ _ _ _ (yt _ _)) (yt _ _) (by decide)
 have A2:zT (.ref s2.length) (.ref s3.length) s4=.ok (.ref s4.length) s5:=oU (xs:=a++b) (ys:=d) (yb _ _ _ _ (yt _ _)) (yt _ _) (by decide)
 have top:s5[s4.length]?=some (.lst (c_ wZ)):=yt _ _
 have ix:∀(i:Nat) (hi:i<wZ.length),zt (.ref s4.length) (.int (i:Int)) s5=.ok (.tup [.str (wZ[i]'hi).1,.int ((wZ[i]'hi).2:Int)]) s5:=λi hi=>by
  rw [mK,yD top,aU (x:=PV.tup [.str (wZ[i]'hi).1,.int ((wZ[i]'hi).2:Int)]) (by rw [yI,yB hi];rfl)]
  rfl
 have L:yH [.ref s4.length] s5=.ok (.int 17) s5:=wV top
 have P:∀{X:Res Fl},GH [Au k,At s4.length] s5=X->GI [Au k,none] st=X:=λh=>zy (zN (jz (xs:=a) rfl (by decide))) (zy (zN (zo (zf rfl) (jz (xs:=b) rfl (by decide)) A1)) (zy (zN (zo (zf rfl) (jz (xs:=d) rfl (by decide)) A2)) h))
 have oo:Old st s5:=(yb _ _).trans ((yb _ _).trans ((yb _ _).trans ((yb _ _).trans (yb _ _))))
 by_cases h:k<17
 ·exact ⟨_,s5,wP (show k<wZ.length from h),yf rfl (P (jf (yJ (zW (zo (zf rfl) (zD (zM (zf rfl)) L) (kT true (by simp;omega) _))) (yh (zo (zf rfl) (zf rfl) (ix k h)))))),oo⟩
 ·have h5:k%5<wZ.length:=jW (jX _ (by decide)) (by decide)
  exact ⟨_,s5,wP h5,yf rfl (P (zy (yu (zW (zo (zf rfl) (zD (zM (zf rfl)) L) (kT false (by simp;omega) _)))) (yh (zo (zf rfl) (zo (zf rfl) rfl (jU k 5 (by decide))) (ix _ h5))))),oo⟩
inductive cJ (hs:List (Str×Nat)) (ks:Ad) (z:Str):PV->Prop
 | let_ (o:Str) (n:Nat) (as:An):(o,n)∈wZ->as.length=n->(∀a∈as,cm ks a)->cJ hs ks z (.tup [.str "let", .str z,.str o,.tup as])
 | call (f:Str) (as:An):(f,as.length)∈hs->(∀a∈as,cm ks a)->cJ hs ks z (.tup [.str "call", .str z,.str f,.tup as])
structure Hs (hs:List (Str×Nat)):Prop where
 pos:0<hs.length
 few:∀h∈hs,h.2<=6
def Bq {hs:List (Str×Nat)}{s:ae}{hd i:Nat}(hh:s[hd]?=some (.lst (c_ hs))) (hi:i<hs.length):zt (.ref hd) (.int (i:Int)) s=.ok (.tup [.str (hs[i]'hi).1,.int ((hs[i]'hi).2:Int)]) s:=by
 rw [mK,yD hh,aU (x:=PV.tup [.str (hs[i]'hi).1,.int ((hs[i]'hi).2:Int)]) (by rw [yI,yB hi];rfl)]
 rfl
theorem Br (c:Int) (z:Str) {zs:Ad}(hz:zs.length<=900) {hs:List (Str×Nat)}(H:Hs hs) {sc hd:Nat}{st:ae}(h1:st[sc]?=some (.lst (zs.map PV.str))) (h2:st[hd]?=some (.lst (c_ hs))):∃v s1,lL [.int c,.str z,.ref sc,.ref hd] st=.ok v s1/\cJ hs zs z v/\Old st s1:=by
 obtain ⟨j,hj,ej⟩:=gr c 2 5 (by decide) (by decide) st
 by_cases h:j=0
 ·subst h
  obtain ⟨i,hi,ei⟩:=gr c 3 hs.length (by decide) H.pos st
  have L:=wV h2
  rw [yM] at L
  obtain ⟨as,s1,ea,hl,ha,o⟩:=oW c (hs[i]'hi).2 (by have:=H.few _ (wP hi);omega) hz h1
  exact ⟨_,s1,yf rfl (jf (yJ (zW (zo (zD (yL (zf rfl) rfl rfl) ej) rfl (bJ true (by simp) _))) (zy (zN (zo (zf rfl) (zD (yL (zf rfl) rfl (zD (zM (zf rfl)) L)) ei) (Bq h2 hi))) (yh (ya (jE rfl (zf rfl) (zo (zf rfl) rfl yK) (zD (yL (zf rfl) (zo (zf rfl) rfl yZ) (zf rfl)) ea)) (by simp)))))),.call _ as (by rw [hl];exact wP hi) ha,o⟩
 ·obtain ⟨i,hi,ei⟩:=gr c 1 29 (by decide) (by decide) st
  obtain ⟨⟨o,n⟩,s1,ho,eo,o1⟩:=Th i (by omega) st
  have fw:=Bp _ ho
  obtain ⟨as,s2,ea,hl,ha,o2⟩:=oW c n (by simp at fw;omega) hz (o1 _ _ h1)
  exact ⟨_,s2,yf rfl (zy (yu (zW (zo (zD (yL (zf rfl) rfl rfl) ej) rfl (bJ false (by simp;omega) _)))) (zy (zN (zD (zM (zD (yL (zf rfl) rfl rfl) ei)) eo)) (yh (ya (jE rfl (zf rfl) (zo (zf rfl) rfl yK) (zD (yL (zf rfl) (zo (zf rfl) rfl yZ) (zf rfl)) ea)) (by simp))))),.let_ o n as ho hl ha,o1.trans o2⟩
def nQ (v:PV):Prop:=∃w r,v=.tup (.str w::r)/\w ≠ "let" /\ w ≠ "call" /\ w ≠ "if"
inductive dY (hs:List (Str×Nat)) (ks:Ad):PV->Prop
 | give (a:PV):cm ks a->dY hs ks (.tup [.str "give", a])
 | fail (w:Str):dY hs ks (.tup [.str "fail", .str w])
 | go (f:Str) (as:An):(f,as.length)∈hs->(∀a∈as,cm ks a)->dY hs ks (.tup [.str "go", .str f,.tup as])
 | if_ (a v1 v2:PV):cm ks a->dY hs ks (.tup [.str "if", a,v1,v2])
theorem m1:("give" : Str) ≠ "if" := by decide +kernel
theorem m2:("fail" : Str) ≠ "if" := by decide +kernel
theorem m3:("go" : Str) ≠ "if" := by decide +kernel
theorem Ti (c:Int) (w:Nat) {zs:Ad}(hz:zs.length<=900) {hs:List (Str×Nat)}(H:Hs hs) {sc hd:Nat}{st:ae}(h1:st[sc]?=some (.lst (zs.map PV.str))) (h2:st[hd]?=some (.lst (c_ hs))):∃v s1,A7 [.int c,.int (w:Int),.ref sc,.ref hd] st=.ok v s1/\nQ v/\dY hs zs v/\Old st s1:=by
 by_cases c3:w=3
 ·obtain ⟨a,s1,ea,ha,o⟩:=Bo c 13 (by decide) hz h1
  exact ⟨_,s1,yf rfl (jf (yJ (zW (zo (zf rfl) rfl (bJ true (by simp;omega) _))) (yh (ya (zX rfl (zD (yL (zf rfl) rfl (zf rfl)) ea)) (by simp))))),⟨_,_,rfl,uo,n3,m1⟩,.give _ ha,o⟩
 by_cases c4:w=4
 ·obtain ⟨z,ez⟩:=uw (jc c 1000000000)
  exact ⟨_,st,yf rfl (zy (yu (zW (zo (zf rfl) rfl (bJ false (by simp;omega) _)))) (jf (yJ (zW (zo (zf rfl) rfl (bJ true (by simp;omega) _))) (yh (ya (zX rfl (zD (zM (zo (zf rfl) (zo rfl rfl (G4 _)) (jk _ _ (by decide)))) (ez _))) (by simp)))))),⟨_,_,rfl,Bj,n5,m2⟩,.fail _,Old.refl _⟩
 ·obtain ⟨i,hi,ei⟩:=gr c 14 hs.length (by decide) H.pos st
  have L:=wV h2
  rw [yM] at L
  obtain ⟨as,s1,ea,hl,ha,o⟩:=oW c (hs[i]'hi).2 (by have:=H.few _ (wP hi);omega) hz h1
  exact ⟨_,s1,yf rfl (zy (yu (zW (zo (zf rfl) rfl (bJ false (by simp;omega) _)))) (zy (yu (zW (zo (zf rfl) rfl (bJ false (by simp;omega) _)))) (zy (zN (zo (zf rfl) (zD (yL (zf rfl) rfl (zD (zM (zf rfl)) L)) ei) (Bq h2 hi))) (yh (ya (yL rfl (zo (zf rfl) rfl yK) (zD (yL (zf rfl) (zo (zf rfl) rfl yZ) (zf rfl)) ea)) (by simp)))))),⟨_,_,rfl,uq,n7,m3⟩,.go _ as (by rw [hl];exact wP hi) ha,o⟩
inductive Bk:PV->List PV->Nat->Prop
 | leaf (ss:An) (e:PV):nQ e->Bk (.tup [.tup ss,e]) (ss++[e]) 0
 | node (ss:An) (va v1 v2:PV) (l1 l2:An) (d1 d2:Nat):Bk v1 l1 d1->Bk v2 l2 d2->Bk (.tup [.tup ss,.tup [.str "if", va,v1,v2]]) (ss++[.tup [.str "if", va,v1,v2]]++l1++l2) (1+max d1 d2)
def nR (e:PV):Prop:=∃w r,e=.tup (.str w::r)/\w ≠ "let" /\ w ≠ "call"
def zev {hs:List (Str×Nat)}{ks:Ad}{e:PV}(h:dY hs ks e):nR e:=by
 cases h with
 | give a=>exact ⟨_,_,rfl,uo,n3⟩
 | fail w=>exact ⟨_,_,rfl,Bj,n5⟩
 | go f as=>exact ⟨_,_,rfl,uq,n7⟩
 | if_ a v1 v2=>exact ⟨_,_,rfl,G5,n8⟩
inductive cb (hs:List (Str×Nat)):List Str->List PV->List Str->Prop
 | nil (ks:Ad):cb hs ks [] []
 | stp (ks:Ad) (z:Str) (s:PV) (ls:An) (zs:Ad):cJ hs ks z s->cb hs (ks++[z]) ls zs->cb hs ks (s::ls) (z::zs)
 | fin (ks:Ad) (e:PV) (ls:An) (zs:Ad):dY hs ks e->cb hs ks ls zs->cb hs ks (e::ls) zs
def cJ.mono {hs:List (Str×Nat)}{ks bT:Ad}(h:∀z∈ks,z∈bT) {z:Str}{s:PV}(t:cJ hs ks z s):cJ hs bT z s:=by
 cases t with
 | let_ o n as h1 h2 h3=>exact .let_ o n as h1 h2 λa ha=>(h3 a ha).mono h
 | call f as h2 h3=>exact .call f as h2 λa ha=>(h3 a ha).mono h
def dY.mono {hs:List (Str×Nat)}{ks bT:Ad}(h:∀z∈ks,z∈bT) {s:PV}(t:dY hs ks s):dY hs bT s:=by
 cases t with
 | give a h1=>exact .give a (h1.mono h)
 | fail w=>exact .fail w
 | go f as h2 h3=>exact .go f as h2 λa ha=>(h3 a ha).mono h
 | if_ a v1 v2 h1=>exact .if_ a v1 v2 (h1.mono h)
def cb.mono {hs:List (Str×Nat)}{ks:Ad}{ls:An}{zs:Ad}(t:cb hs ks ls zs):∀{bT:Ad},(∀z∈ks,z∈bT)->cb hs bT ls zs:=by
 induction t with
 | nil ks=>intro bT _;exact .nil bT
 | stp ks z s ls zs hs _ ih =>
  intro bT h
  refine .stp bT z s ls zs (hs.mono h) (ih λy hy=>?_)
  rcases jG.mp hy with q|q
  ·exact wF _ (h y q)
  ·exact jm _ q
 | fin ks e ls zs he _ ih=>intro bT h;exact .fin bT e ls zs (he.mono h) (ih h)
def cb.app {hs:List (Str×Nat)}{ks:Ad}{l1 l2:An}{z1 z2:Ad}(t:cb hs ks l1 z1):cb hs (ks++z1) l2 z2->cb hs ks (l1++l2) (z1++z2):=by
 induction t with
 | nil ks=>intro h;simpa using h
 | stp ks z s ls zs hs _ ih=>intro h;exact .stp ks z s _ _ hs (ih (by simpa using h))
 | fin ks e ls zs he _ ih=>intro h;exact .fin ks e _ _ he (ih h)
def cb.snoc {hs:List (Str×Nat)}{ks:Ad}{ls:An}{zs:Ad}(t:cb hs ks ls zs) {z:Str}{s:PV}(h:cJ hs (ks++zs) z s):cb hs ks (ls++[s]) (zs++[z]):=t.app (.stp _ z s [] [] h (.nil _))
def sub (b b':Nat):Prop:=b'=b\/b'/2=b\/b'/4=b
noncomputable abbrev bB:Aj:=(zw (zG 10 (zu wB (zd (zc 5) (zd (ze zT (ze zT (Ar 4) (ze jo (Ar 2) (zc 2))) (zc 9)) zm))))
  (zw (yT (yN yR (zc 8) (zu lL (zd (zu jp (zd (zc 0) (zd (ze zT (zc 6) (zc 9)) zm))) (zd (zc 10) (zd (zc 3) (zd (zc 4) zm)))))))
  (yT (yN yR (zc 3) (zc 10)))))
noncomputable abbrev eB (ns:List Int) (f b sc hd c a:Nat) (x:Int) (t:Nat) (z9 z10 z11:Ao):zj:=[some (.frl (ns.map PV.int)),Au f,Au b,At sc,At hd,Au c,Au a,some (.int x),At t,z9,z10,z11,none,none]
def He {dS:Nat}{xs:An}{st:ae}{X:Res PV}(h:A8 (kO dS) xs st=X):kO (dS+1) xs st=X:=h
theorem Hf {s1 s2:ae}{t sc a0:Nat}{ss:An}{zs:Ad}{v:PV}{z:Str}(h1:s2[t]?=some (.lst ss)) (h2:s2[sc]?=some (.lst (zs.map PV.str))) (ne:t≠sc) (l1:ss.length<=1000) (l2:zs.length<=1000) (o:∀(m:Nat) so,m<a0->s1[m]?=some so->s2[m]?=some so) (ta:a0<=t) (sa:a0<=sc) :
  ∃s3 s4,yR (.ref t) v s2=.ok .non s3/\s3[sc]?=some (.lst (zs.map PV.str))/\yR (.ref sc) (.str z) s3=.ok .non s4/\s4[t]?=some (.lst (ss++[v]))/\s4[sc]?=some (.lst ((zs++[z]).map PV.str))/\∀(m:Nat) so,m<a0->s1[m]?=some so->s4[m]?=some so:=by
 have A1:=kW (y:=v) h1 (by omega)
 have h3:(s2.set t (.lst (ss++[v])))[sc]?=some (.lst (zs.map PV.str)):=by rw [yA ne];exact h2
 have A2:=kW (y:=.str z) h3 (by simp;omega)
 refine ⟨_,_,A1,h3,A2,?_,?_,λm so hm e=>?_⟩
 ·rw [yA (ja ne),ju (yv h1)]
 ·rw [ju (yv h3),jA];rfl
 ·rw [yA (by omega),yA (by omega)]
  exact o m so hm e
def bc {a c d:An}{v:PV}{m k:Nat}(h:a.length=m) (i:m<3) (e:c.length<=k) (f:d.length<=k):(a++[v]++c++d).length<=2*k+3:=by simp;omega
def bd {a b:Nat}(h:a<=b):2*a<=2*b/\2*a<=2*b+1:=by omega
def be:∀b:Fin 4,∀x:Fin 8,0<b.1->(sub (2*b) x->sub b x/\x.1≠b/\¬sub (2*b+1) x)/\(sub (2*b+1) x->sub b x/\x.1≠b):=by unfold sub;decide
def bi {i:Nat}(h:i<20):(i-4)/2<8:=by omega
theorem Tj {D:Nat}{nm:Nat->Str}(M:Nm D nm) {hs:List (Str×Nat)}(H:Hs hs) (ns:List Int) (f:Nat) (hf:f<=10):∀(dS b:Nat),1<=b->b<=7->(b<2->2<dS)->(b<4->1<dS)->0<dS->∀(zs:Ad) (sc hd:Nat) (st:ae),zs.length<=800+2*b->st[sc]?=some (.lst (zs.map PV.str))->st[hd]?=some (.lst (c_ hs)) ->
  ∃v s1 ls dd,∃is:List Nat,kO dS [.frl (ns.map PV.int),.int (f:Int),.int (b:Int),.ref sc,.ref hd,.int (D:Int)] st=.ok v s1/\Old st s1/\Bk v ls dd/\dd<=2/\(4<=b->dd=0)/\(2<=b->dd<=1)/\ls.length<=21/\(2<=b->ls.length<=9)/\(4<=b->ls.length<=3)/\cb hs zs ls (is.map nm)/\is.Nodup/\∀i∈is,6<=i/\i<20/\sub b ((i-4)/2):=by
 intro dS
 induction dS with
 | zero=>intro b _ _ _ _ h;omega
 | succ dS ih =>
  intro b Tn W6 hl2 W7 _ zs sc hd st W8 To Tp
  let a:Nat:=6+(b-1)*9+f*3
  have ha:a<=200:=by show 6+(b-1)*9+f*3<=200;omega
  have b1:(b:Int)-1=((b-1:Nat):Int):=by omega
  obtain ⟨x,s1,e1,o1⟩:=i6 ns (a+2) (by omega) st
  let s2:=s1++[SO.lst (zs.map PV.str)]
  let s3:=s2++[SO.lst []]
  have LS:gZ [.ref sc] s1=.ok (.ref s1.length) s2:=S7 (o1 _ _ To)
  have l2:s2.length=s1.length+1:=by simp [s2]
  obtain ⟨m,hm,em⟩:=gr x 11 3 (by decide) (by decide) s3
  have Hg:s3[s1.length]?=some (.lst (zs.map PV.str)):=yb _ _ _ _ (yt _ _)
  have qC:s3[s2.length]?=some (.lst []):=yt _ _
  have ic:=o1 _ _ Tp
  have om:=yv ic
  let O:Nat->List Nat:=λi=>(List.range i).map λj=>4+2*b+j
  have vn:∀i,O (i+1)=O i++[4+2*b+i]:=λi=>by simp [O,pj]
  have nS:∀i,(O i).length=i:=λi=>by simp [O]
  obtain ⟨e',s4,F,⟨z9,z10,he⟩,ob,ie,ss,q9,cq⟩:=kU (gt:=gN 9) (body:=bB) (fs:=(zd (zu jT (zd (zc 7) (zd (Ar 11) (zd (Ar 3) zm)))) zm)) (e:=eB ns f b s1.length hd D a x s2.length none none none) (st:=s3) (λi e s=>(∃z9 z10,e=eB ns f b s1.length hd D a x s2.length z9 z10 none)/\(∀(k:Nat) so,k<s1.length->s1[k]?=some so->s[k]?=some so)/\s[s1.length]?=some (.lst ((zs++(O i).map nm).map PV.str))/\∃ss,s[s2.length]?=some (.lst ss)/\cb hs zs ss ((O i).map nm)/\ss.length=i) m (by omega) (zM (zD (yL (zf rfl) rfl rfl) em)) (λi e s hi ⟨⟨z9,z10,he⟩,ob,ie,ss,q9,cq,q_⟩=>by
   subst he
   obtain ⟨t1,f1,g1⟩:=M.at_ (4+2*b+i) (by omega) s
   obtain ⟨y,t2,f2,g2⟩:=i6 ns (a+i) (by omega) t1
   have zl:(zs++(O i).map nm).length<=900:=by simp [nS];omega
   have oo:=g1.trans g2
   obtain ⟨v,t3,f3,hv,g3⟩:=Br y (nm (4+2*b+i)) zl H (oo _ _ ie) (oo _ _ (ob _ _ om ic))
   have o3:=oo.trans g3
   obtain ⟨t4,t5,A1,k1,A2,k2,k3,k4⟩:=Hf (s1:=s1) (a0:=s1.length) (v:=v) (z:=nm (4+2*b+i)) (o3 _ _ q9) (o3 _ _ ie) (by omega) (by omega) (by omega) (λk so hk e=>o3 _ _ (ob k so hk e)) (by omega) (yk _)
   refine ⟨eB ns f b s1.length hd D a x s2.length (Au i) z10 none,_,t5,rfl,zy (zN (zD (zX (zf rfl) (zo (zo rfl (zo rfl (zf rfl) (gq 2 b (.inl (by decide)))) (yY 4 _)) (zf rfl) (yY _ i))) f1)) (zy (wW (wz (zf rfl) (g1 _ _ q9) (zD (jE (zD (zX (zf rfl) (zo (zf rfl) (zf rfl) (yY a i))) f2) (zf rfl) (zf rfl) (zf rfl)) f3) A1)) (wW (wz (zf rfl) k1 (zf rfl) A2))),⟨_,_,rfl⟩,k4,?_,ss++[v],k2,?_,by simp [q_]⟩
   ·rw [show zs++(O (i+1)).map nm=(zs++(O i).map nm)++[nm (4+2*b+i)] by rw [vn];simp];exact k3
   ·rw [vn,jA];exact cq.snoc hv) ⟨⟨none,none,rfl⟩,λk so hk e=>yb _ _ _ _ (yb _ _ _ _ e),by simpa [O] using Hg,[],qC,.nil _,rfl⟩
  subst he
  obtain ⟨cq,q_⟩:=cq
  obtain ⟨w,hw,ew⟩:=gr x 12 7 (by decide) (by decide) s4
  have rd:=ob _ _ om ic
  have o4:Old st s4:=λk so e=>ob k so (yv (o1 _ _ e)) (o1 _ _ e)
  have zl:(zs++(O m).map nm).length<=900:=by simp [nS];omega
  have G:∀{X:Res Fl},GL (kO dS) (eB ns f b s1.length hd D a x s2.length z9 z10 (Au w)) s4=X->GN (kO dS) [some (.frl (ns.map PV.int)),Au f,Au b,At sc,At hd,Au D,none,none,none,none,none,none,none,none] st=X:=λh=>zy (zN (zo (zo rfl (zo (zo (zf rfl) rfl ((g_ _ _).trans (by rw [b1]))) rfl (gq _ 9 (.inr (by decide)))) (yY 6 _)) (zo (zf rfl) rfl (gq f 3 (.inr (by decide)))) (yY _ _))) (zy (zN (zD (zX (zf rfl) (zo (zf rfl) rfl (yY a 2))) e1)) (zy (zN (zD (zM (zf rfl)) LS)) (zy (zN (jz jO (by simp))) (zy F (zy (zN (zD (yL (zf rfl) rfl rfl) ew)) h)))))
  have vo:(O m).Nodup:=by
   refine List.pairwise_iff_getElem.mpr λi j hi hj cx e=>?_
   simp only [O,List.getElem_map,List.getElem_range] at e
   omega
  have rg:∀i∈O m,6<=i/\i<20/\(i-4)/2=b:=λi hi=>by
   obtain ⟨j,hj,rfl⟩:=jd.mp hi
   have:=ki.mp hj
   omega
  by_cases c1:4<w/\b<4
  ·have b2:((2*b:Nat):Int)+1=((2*b+1:Nat):Int):=by omega
   obtain ⟨v1,s5,l1,d1,i1,e5,o5,B1,q1,q2,q3,q4,q5,q6,N1,Tq,I⟩:=ih (2*b) (by omega) (by omega) (by omega) (by omega) (by omega) (zs++(O m).map nm) s1.length hd s4 (by simp [nS];omega) ie rd
   obtain ⟨v2,s6,Hh,d2,i2,e6,o6,B2,p1,p2,p3,p4,p5,p6,N2,Bs,oV⟩:=ih (2*b+1) (by omega) (by omega) (by omega) (by omega) (by omega) (zs++(O m).map nm) s1.length hd s5 (by simp [nS];omega) (o5 _ _ ie) (o5 _ _ rd)
   have Bt:=o5.trans o6
   have U:=bd Tn
   have Y{i}(h:i<20):=be ⟨b,c1.2⟩ ⟨_,bi h⟩ Tn
   have V{p:Prop}(h:4<=b):p:=absurd c1.2 (Nat.not_lt.2 h)
   have tu:jM [.ref s2.length] s6=.ok (.tup ss) s6:=by rw [wM,yD (Bt _ _ q9)]
   obtain ⟨va,s7,e7,Tr,o7⟩:=Bo x 13 (by decide) zl (Bt _ _ ie)
   refine ⟨_,s7,_,_,O m++(i1++i2),He (yf rfl (G (jf (yJ (g9 (zW (zo (zf rfl) rfl (lN true (by simp;omega) _))) (zW (zo (zf rfl) rfl (kT true (by simp;omega) _)))) (zy (zN (zD (wX (zf rfl) (wX (zf rfl) (wX (zo rfl (zf rfl) (gq 2 b (.inl (by decide)))) (yL (zf rfl) (zf rfl) (zf rfl))))) e5)) (zy (zN (zD (wX (zf rfl) (wX (zf rfl) (wX (zo (zo rfl (zf rfl) (gq 2 b (.inl (by decide)))) rfl ((tS _ _).trans (by rw [b2]))) (yL (zf rfl) (zf rfl) (zf rfl))))) e6)) (yh (ya (zX (zD (zM (zf rfl)) tu) (ya (jE rfl (zD (yL (zf rfl) rfl (zf rfl)) e7) (zf rfl) (zf rfl)) (by simp))) (by simp))))))))),o4.trans (Bt.trans o7),.node ss va v1 v2 l1 Hh d1 d2 B1 B2,Nat.add_le_add_left (Nat.max_le.2 ⟨q3 U.1,p3 U.2⟩) 1,V,λh=>Nat.add_le_add_left (Nat.max_le.2 ⟨Nat.le_of_eq (q2 (bd h).1),Nat.le_of_eq (p2 (bd h).2)⟩) 1,bc q_ hm (q5 U.1) (p5 U.2),λh=>bc q_ hm (q6 (bd h).1) (p6 (bd h).2),V,?_,?_,?_⟩
   ·have h2:cb hs (zs++(O m).map nm) ([.tup [.str "if", va,v1,v2]]++(l1++Hh)) (i1.map nm++i2.map nm):=.fin _ _ _ _ (.if_ _ _ _ Tr) (N1.app (N2.mono λz hz=>wF _ hz))
    rw [jA,jA,wG,wG]
    exact cq.app h2
   ·rw [List.nodup_append,List.nodup_append]
    refine ⟨vo,⟨Tq,Bs,λi hi j hj e=>?_⟩,λi hi j hj e=>?_⟩
    ·subst e
     exact ((Y (I i hi).2.1).1 (I i hi).2.2).2.2 (oV i hj).2.2
    ·subst e
     have a0:=rg i hi
     rcases jG.mp hj with q|q
     ·exact ((Y (I i q).2.1).1 (I i q).2.2).2.1 a0.2.2
     ·exact ((Y (oV i q).2.1).2 (oV i q).2.2).2 a0.2.2
   ·intro i hi
    rcases jG.mp hi with q|q
    ·have:=rg i q
     exact ⟨this.1,this.2.1,.inl this.2.2⟩
    ·rcases jG.mp q with q|q
     ·have a:=I i q;exact ⟨a.1,a.2.1,((Y a.2.1).1 a.2.2).1⟩
     ·have a:=oV i q;exact ⟨a.1,a.2.1,((Y a.2.1).2 a.2.2).1⟩
  ·have tu:jM [.ref s2.length] s4=.ok (.tup ss) s4:=by rw [wM,yD q9]
   obtain ⟨v,s5,e5,hv,Ts,o5⟩:=Ti x w zl H ie rd
   have TT:(wI (mB (ze iQ (zc 11) (Ar 4))) (mB (ze wR (zc 2) (Ar 4)))) (eB ns f b s1.length hd D a x s2.length z9 z10 (Au w)) s4=.ok false s4:=by
    by_cases q:4<w
    ·exact g9 (zW (zo (zf rfl) rfl (lN true (by simp;omega) _))) (zW (zo (zf rfl) rfl (kT false (by simp;omega) _)))
    ·exact iV (zW (zo (zf rfl) rfl (lN false (by simp;omega) _)))
   refine ⟨_,s5,_,_,O m,He (yf rfl (G (zy (yu TT) (yh (ya (zX (zD (zM (zf rfl)) tu) (zD (jE (zf rfl) (zf rfl) (zf rfl) (zf rfl)) e5)) (by simp)))))),o4.trans o5,.leaf ss v hv,by omega,by omega,by omega,by simp;omega,by simp;omega,by simp;omega,?_,vo,λi hi=>?_⟩
   ·have:=cq.app (l2:=[v]) (z2:=[]) (.fin _ _ _ _ Ts (.nil _))
    simpa using this
   ·have:=rg i hi
    exact ⟨this.1,this.2.1,.inl this.2.2⟩
structure Fn (hs:List (Str×Nat)) (f:PV) (nz:Str) (ps zs:Ad) (ls:An) (dd:Nat):Prop where
 ex:∃bv,f=.tup [.str nz,.tup (ps.map PV.str),bv]/\Bk bv ls dd
 ln:cb hs ps ls zs
 nd:(ps++zs).Nodup
 dp:dd<=8
 nl:ls.length<=100
 np:ps.length<=6
def f9 (hs:List (Str×Nat)) (h:Str×Nat) (f:PV):Prop:=∃ps zs ls dd,Fn hs f h.1 ps zs ls dd/\ps.length=h.2
structure mZ (hs:List (Str×Nat)) (fs:An):Prop where
 ok:Hs hs
 len:fs.length=hs.length
 few:hs.length<=200
 nd:(hs.map (·.1)).Nodup
 fn:∀(i:Nat) h f,hs[i]?=some h->fs[i]?=some f->f9 hs h f
 sz:hs.length<=3\/∀h∈hs,h.2<=2
def Hi {fo fi fv:Ai}{e:zj}{s s1:ae}{n i:Nat}{x:PV}{xs:An}(hv:fv e s=.ok x s1) (ho:fo e s1=.ok (.ref n) s1) (hi:fi e s1=.ok (.int (i:Int)) s1) (h:s1[n]?=some (.lst xs)) (hl:i<xs.length):mP fo fi fv e s=.ok (.nx e) (s1.set n (.lst (xs.set i x))):=by
 unfold mP
 rw [hv,zJ,ho,zJ,hi,zJ]
 show (yx s1 n _).bind _=_
 rw [yD h,zF hl,zJ]
theorem Hj {g:PV->zj->Option zj}{body:Aj}{n:Nat}(xs:An) (I:Nat->zj->ae->Prop) (at_:∀i e st,I i e st->st[n]?=some (.lst xs)) (step:∀(i:Nat) x e st,xs[i]?=some x->I i e st->∃e1 e2 ax,g (.tup [.int (i:Int),x]) e=some e1/\body e1 st=.ok (.nx e2) ax/\I (i+1) e2 ax) :
  ∀(k i m:Nat) (env:zj) (st:ae),i+k=xs.length->k<m->I i env st->∃bp bA,d9 g body n m i env st=.ok (.nx bp) bA/\I xs.length bp bA
 | 0,i,m,env,st,hk,hm,h=>by
  obtain ⟨m,rfl⟩:∃j,m=j+1:=⟨m-1,by omega⟩
  refine ⟨env,st,?_,by rw [<-hk];exact h⟩
  unfold d9
  rw [yD (at_ _ _ _ h),rS (by omega)]
 | k+1,i,m,env,st,hk,hm,h=>by
  obtain ⟨m,rfl⟩:∃j,m=j+1:=⟨m-1,by omega⟩
  have hx:xs[i]?=some (xs[i]'(by omega)):=yB (by omega)
  obtain ⟨e1,e2,ax,q1,q2,q3⟩:=step i _ env st hx h
  obtain ⟨bp,bA,r,h2⟩:=Hj xs I at_ step k (i+1) m e2 ax (by omega) (by omega) q3
  refine ⟨bp,bA,?_,h2⟩
  unfold d9
  rw [yD (at_ _ _ _ h),hx]
  simp only
  rw [q1]
  simp only
  rw [q2]
  simp only [zJ]
  exact r
def rj (ns:List Int) (k:Nat) (h9:k<1000) (st:ae):∃(c:Nat) (s1:ae),c<1000000000/\Old st s1/\∀e:zj,e[0]?=some (some (.frl (ns.map PV.int)))->(ze zY (zu jp (zd (zc 0) (zd (Ar (k:Int)) zm))) (ze gm (Ar 10) (Ar 9))) e st=.ok (.int (c:Int)) s1:=by
 obtain ⟨x,s1,e1,o⟩:=i6 ns k h9 st
 obtain ⟨c,hc,ec⟩:=bG x 1000000000 (by decide)
 have ec:jc x 1000000000=(c:Int):=ec
 exact ⟨c,s1,hc,o,λe h0=>zo (zD (zX (zf h0) rfl) e1) (zo rfl rfl (G4 _)) ((jk _ _ (by decide)).trans (by rw [ec]))⟩
def m8 (z:Str):Hs [(z,2)]:=⟨by simp,λh hh=>by rw [jP.mp hh];show 2<=6;decide⟩
theorem rm {nm:Nat->Str}{P:Nat->Prop}(h:∀i j,P i->P j->nm i=nm j->i=j):∀{l:List Nat},l.Nodup->(∀i∈l,P i)->(l.map nm).Nodup
 | [],_,_=>.nil
 | x::l,nd,hp=>by
  rw [jB] at nd
  rw [yo,jB]
  refine ⟨λhm=>?_,rm h nd.2 λi hi=>hp i (yX _ hi)⟩
  obtain ⟨y,hy,e⟩:=jd.mp hm
  have:=h y x (hp y (yX _ hy)) (hp x (yO ..)) e
  exact nd.1 (this▸hy)
noncomputable abbrev xy:Ad:=["x", "y"]
def rn (r:An):nQ (.tup (.str "go" :: r)):=⟨_,_,rfl,uq,n7,m3⟩
noncomputable abbrev bL:Aj:=(zw (zG 6 (ze zT (As "n") (zu mJ (zd (ze zT (ze zY (ze yG (zc 1) (Ar 60)) (Ar 100000)) (zc 5)) zm))))
  (zw (yT (yN yR (zc 4) (zu lL (zd (ze zT (zu jp (zd (zc 0) (zd (ze zT (Ar 7) (ze zY (zc 5) (Ar 50))) zm))) (zc 5)) (zd (zc 6) (zd (zc 3) (zd (zc 2) zm)))))))
  (yT (yN yR (zc 3) (zc 6)))))
def Hk {z:Str}{f:PV}(h:f9 [(z,2)] (z,2) f):mZ [(z,2)] [f]:=⟨m8 z,rfl,by simp,by simp,(λi h' f' e1 e2=>by
 cases i with
 | zero=>cases e1;cases e2;exact h
 | succ i=>simp at e1),.inl (by simp)⟩
theorem Tt (ns:List Int) (st:ae):∃hs fs s1,AZ [.frl (ns.map PV.int)] st=.ok (.tup fs) s1/\mZ hs fs/\Old st s1:=by
 obtain ⟨c,s1,hc,o1,e1⟩:=rj ns 6 (by decide) st
 let s2:=s1++[SO.lst (c_ [("long", 2)])]
 let s3:=s2++[SO.lst (xy.map PV.str)]
 let s4:=s3++[SO.lst []]
 have l2:s2.length=s1.length+1:=by simp [s2]
 have l3:s3.length=s1.length+2:=by simp [s3,s2]
 have rd:s4[s1.length]?=some (.lst (c_ [("long", 2)])):=yb _ _ _ _ (yb _ _ _ _ (yt _ _))
 have Tu:s4[s2.length]?=some (.lst (xy.map PV.str)):=yb _ _ _ _ (yt _ _)
 have t4:s4[s3.length]?=some (.lst []):=yt _ _
 have o4:Old s1 s4:=(yb _ _).trans ((yb _ _).trans (yb _ _))
 let q:=c/60%100000
 have hq:q<100000:=jX _ (by decide)
 let nm:Nat->Str:=λk => "n" ++ kX (q+k)
 have ln:("n" : Str).length=1:=by decide +kernel
 have hm:c%60<60:=jX _ (by decide)
 generalize em:c%60=m at hm
 obtain ⟨e',s5,F,⟨z5,z6,he⟩,ob,ux,ss,t5,cq,q_⟩:=kU (gt:=gN 5) (body:=bL) (fs:=(zd (ze zY (zc 1) (Ar 60)) zm)) (e:=[some (.frl (ns.map PV.int)),Au c,At s1.length,At s2.length,At s3.length,none,none]) (st:=s4) (λi e s=>(∃z5 z6,e=[some (.frl (ns.map PV.int)),Au c,At s1.length,At s2.length,At s3.length,z5,z6])/\(∀(k:Nat) so,k<s2.length->s4[k]?=some so->s[k]?=some so)/\s[s2.length]?=some (.lst ((xy++(List.range i).map nm).map PV.str))/\∃ss,s[s3.length]?=some (.lst ss)/\cb [("long", 2)] xy ss ((List.range i).map nm)/\ss.length=i) m (by omega) (zM (zo (zf rfl) rfl ((jU c 60 (by decide)).trans (by rw [em])))) (λi e s hi ⟨⟨z5,z6,he⟩,ob,ux,ss,t5,cq,q_⟩=>by
  subst he
  have Tv:i%50<50:=jX _ (by decide)
  obtain ⟨y,t1,f1,g1⟩:=i6 ns (7+i%50) (by omega) s
  have zl:(xy++(List.range i).map nm).length<=900:=by simp;omega
  obtain ⟨v,t2,f2,hv,g2⟩:=Br (y+(i:Int)) (nm i) zl (m8 "long") (g1 _ _ ux) (g1 _ _ (ob _ _ (by omega) rd))
  have o3:=g1.trans g2
  obtain ⟨W9,Tw,A1,k1,A2,k2,k3,k4⟩:=Hf (s1:=s4) (a0:=s2.length) (v:=v) (z:=nm i) (o3 _ _ t5) (o3 _ _ ux) (by omega) (by omega) (by omega) (λk so hk e=>o3 _ _ (ob k so hk e)) (by omega) (yk _)
  refine ⟨[some (.frl (ns.map PV.int)),Au c,At s1.length,At s2.length,At s3.length,Au i,z6],_,Tw,rfl,zy (zN (zo rfl (zD (zM (zo (zo (zo (zf rfl) rfl (ib c 60 (by decide) (by decide))) rfl (jU _ 100000 (by decide))) (zf rfl) (yY q i))) (Ha _ (by omega) _)) (ad _ _ (by have:=G_ (q+i) (by omega);omega) _))) (zy (wW (wz (zf rfl) t5 (zD (jE (zo (zD (zX (zf rfl) (zo rfl (zo (zf rfl) rfl (jU i 50 (by decide))) (yY 7 _))) f1) (zf rfl) (tS _ _)) (zf rfl) (zf rfl) (zf rfl)) f2) A1)) (wW (wz (zf rfl) k1 (zf rfl) A2))),⟨_,_,rfl⟩,k4,?_,ss++[v],k2,?_,by simp [q_]⟩
  ·rw [show xy++(List.range (i+1)).map nm=(xy++(List.range i).map nm)++[nm i] by simp [pj]];exact k3
  ·rw [pj,jA];exact cq.snoc hv) ⟨⟨none,none,rfl⟩,λk so hk e=>e,Tu,[],t4,.nil _,rfl⟩
 subst he
 have zl:(xy++(List.range m).map nm).length<=900:=by simp;omega
 have tu:jM [.ref s3.length] s5=.ok (.tup ss) s5:=by rw [wM,yD t5]
 obtain ⟨as,s6,e6,rq,cN,o6⟩:=oW c 2 (by decide) zl ux
 refine ⟨[("long", 2)],[.tup [.str "long", .tup (xy.map PV.str),.tup [.tup ss,.tup [.str "go", .str "long", .tup as]]]],s6,yf rfl (zy (zN (e1 _ rfl)) (zy (zN (jz (xs:=c_ [("long", 2)]) rfl (by decide))) (zy (zN (jz (xs:=xy.map PV.str) rfl (by decide))) (zy (zN (jz jO (by simp))) (zy F (yh (ya (zM (ya (yL rfl (ya (zX rfl rfl) (by simp)) (ya (zX (zD (zM (zf rfl)) tu) (ya (yL rfl rfl (zD (yL (zf rfl) rfl (zf rfl)) e6)) (by simp))) (by simp))) (by simp))) (by simp)))))))),Hk ?_,λk so e=>?_⟩
 ·refine ⟨xy,(List.range m).map nm,_,_,⟨⟨_,rfl,.leaf ss _ (rn _)⟩,?_,?_,by omega,by simp;omega,by simp⟩,rfl⟩
  ·have:=cq.app (l2:=[.tup [.str "go", .str "long", .tup as]]) (z2:=[]) (.fin _ _ _ _ (.go _ as (by rw [rq];exact jP.mpr rfl) cN) (.nil _))
   simpa using this
  ·rw [List.nodup_append]
   refine ⟨by decide +kernel,rm (P:=λ_=>True) (λi j _ _ h=>by have:=G9 (Bm h);omega) List.nodup_range (λ_ _=>trivial),λa ha b hb e=>?_⟩
   subst e
   obtain ⟨i,_,hi⟩:=jd.mp hb
   have h0:a.cps.toList[0]?=some 110:=by
    rw [<-hi]
    show (("n" : Str)++kX (q+i)).cps.toList[0]?=_
    rw [PySem.Str.cps_append,Array.toList_append,show ("n" : Str).cps.toList=[110] by decide +kernel]
    rfl
   rcases yz.mp ha with r|r
   ·rw [r] at h0;revert h0;decide +kernel
   ·rw [jP.mp r] at h0;revert h0;decide +kernel
 ·exact o6 _ _ (ob k so (by have:=yv (o1 _ _ e);omega) (o4 _ _ (o1 _ _ e)))
theorem Hl (xs:An) (k:Nat):cy xs none (some (k:Int))=xs.take k:=by
 unfold cy
 rw [HT.sIx_none,HT.sIx_nat,List.drop_zero,Nat.sub_zero]
 by_cases h:k<=xs.length
 ·rw [Nat.min_eq_left h]
 ·rw [Nat.min_eq_right (by omega),List.take_length,List.take_of_length_le (by omega)]
def Hm {s:ae}{n:Nat}{zs:Ad}(h:s[n]?=some (.lst (zs.map PV.str))) (k:Nat):mz (.ref n) none (some (k:Int)) s=.ok (.ref s.length) (s++[.lst ((zs.take k).map PV.str)]):=by
 rw [Ql,yD h,Hl,List.map_take]
def vp (a b:Int) (st:ae):wT (.int a) (.int b) st=.ok (.bl (a==b)) st:=by
 unfold wT
 rw [show eqT st 150 (.int a) (.int b)=some (a==b) from rfl]
noncomputable def y0:Ad:=["p", "q", "s1", "s2", "s3", "s4", "s5", "s6", "s7", "s8"]
noncomputable abbrev bD:Aj:=(zw (zG 5 (zu jp (zd (zc 0) (zd (ze zT (Ar 7) (zc 4)) zm))))
  (zw (zG 6 (zu lL (zd (zc 5) (zd (ze zt (zc 2) (ze wa (Ar 9) (zc 4))) (zd (wb (zc 2) bU (bC (ze wa (Ar 9) (zc 4)))) (zd (jb (zd (zE (zd (As "deep") (zd (Ar 2) zm))) zm)) zm))))))
  (zw (zG 7 (zE (zd (zE zm) (zd (zE (zd (As "go") (zd (As "deep") (zd (zu kN (zd (ze yG (zc 5) (Ar 7)) (zd (Ar 2) (zd (wb (zc 2) bU (bC (ze wa (Ar 10) (zc 4)))) zm)))) zm)))) zm))))
  (zw (zG 8 (zE (zd (As "of") (zd (ze zt (zc 2) (zu jT (zd (zc 5) (zd (Ar 15) (zd (ze wa (Ar 10) (zc 4)) zm))))) zm))))
  (zZ (mB (ze yi (ze zY (zc 5) (Ar 2)) (Ar 0)))
  (zG 3 (zE (zd (zE (zd (zc 6) zm)) (zd (zE (zd (As "if") (zd (zc 8) (zd (zc 3) (zd (zc 7) zm))))) zm))))
  (zG 3 (zE (zd (zE (zd (zc 6) zm)) (zd (zE (zd (As "if") (zd (zc 8) (zd (zc 7) (zd (zc 3) zm))))) zm)))))))))
def fD {s:ae}{n:Nat}{zs:Ad}(h:s[n]?=some (.lst (zs.map PV.str))) {i:Nat}(hi:i<zs.length):zt (.ref n) (.int (i:Int)) s=.ok (.str (zs[i]'hi)) s:=by
 rw [mK,yD h,aU (x:=PV.str (zs[i]'hi)) (by rw [yI,yB hi];rfl)]
 rfl
theorem Tx (ns:List Int) (st:ae):∃hs fs s1,A6 [.frl (ns.map PV.int)] st=.ok (.tup fs) s1/\mZ hs fs/\Old st s1:=by
 obtain ⟨c,s1,hc,o1,e1⟩:=rj ns 6 (by decide) st
 let s2:=s1++[SO.lst (y0.map PV.str)]
 have h2:s2[s1.length]?=some (.lst (y0.map PV.str)):=yt _ _
 obtain ⟨as,s3,e3,rq,cN,o3⟩:=oW c 2 (by decide) (zs:=y0) (by decide) h2
 have W_:y0.length=10:=rfl
 obtain ⟨e',s4,F,⟨bv,z4,z5,z6,z7,z8,he,ls,dd,B,oX,Hn,cq⟩,o4⟩:=kU (gt:=gN 4) (body:=bD) (fs:=(zd (Ar 8) zm)) (e:=[some (.frl (ns.map PV.int)),Au c,At s1.length,some (.tup [.tup [],.tup [.str "go", .str "deep", .tup as]]),none,none,none,none,none]) (st:=s3) (λi e s=>(∃bv z4 z5 z6 z7 z8,e=[some (.frl (ns.map PV.int)),Au c,At s1.length,some bv,z4,z5,z6,z7,z8]/\∃ls dd,Bk bv ls dd/\dd<=i/\ls.length<=1+3*i/\cb [("deep", 2)] (y0.take (10-i)) ls (y0.drop (10-i)))/\Old s3 s) 8 (by decide) rfl (λi e s hi ⟨⟨bv,z4,z5,z6,z7,z8,he,ls,dd,B,oX,Hn,cq⟩,o⟩=>by
  subst he
  have a9:(9:Int)-(i:Int)=((9-i:Nat):Int):=by omega
  have Ho:(10:Int)-(i:Int)=((10-i:Nat):Int):=by omega
  have hN:∀{s':ae},Old s s'->s'[s1.length]?=some (.lst (y0.map PV.str)):=λo'=>o' _ _ (o _ _ (o3 _ _ h2))
  obtain ⟨y,t1,f1,g1⟩:=i6 ns (7+i) (by omega) s
  have lO:9-i<y0.length:=by omega
  let t2:=t1++[SO.lst ((y0.take (9-i)).map PV.str)]
  let t3:=t2++[SO.lst (c_ [("deep", 2)])]
  obtain ⟨v,t4,f4,hv,g4⟩:=Br y (y0[9-i]'lO) (zs:=y0.take (9-i)) (by simp;omega) (m8 "deep") (st:=t3) (sc:=t1.length) (hd:=t2.length) (yb _ _ _ _ (yt _ _)) (yt _ _)
  have oY:Old s t4:=g1.trans ((yb _ _).trans ((yb _ _).trans g4))
  let t5:=t4++[SO.lst ((y0.take (10-i)).map PV.str)]
  obtain ⟨m9,t6,f6,Hq,Hr,g6⟩:=oW (jH y 7) 2 (by decide) (zs:=y0.take (10-i)) (by simp;omega) (st:=t5) (sc:=t4.length) (yt _ _)
  have Bu:Old s t6:=oY.trans ((yb _ _).trans g6)
  obtain ⟨j,hj,ej⟩:=gr y 15 (10-i) (by decide) (by omega) t6
  have uz:j<y0.length:=by omega
  obtain ⟨r,hr,er⟩:=bG y 2 (by decide)
  have er:jc y 2=(r:Int):=er
  have Tz:y0.take (10-i)=y0.take (9-i)++[y0[9-i]'lO]:=by
   rw [show 10-i=(9-i)+1 by omega]
   exact kS (yB lO)
  have TC:y0.drop (9-i)=y0[9-i]'lO::y0.drop (10-i):=by
   rw [j8 lO,show 9-i+1=10-i by omega]
  have pre:∀{X:Res Fl},(zZ (mB (ze yi (ze zY (zc 5) (Ar 2)) (Ar 0)))
   (zG 3 (zE (zd (zE (zd (zc 6) zm)) (zd (zE (zd (As "if") (zd (zc 8) (zd (zc 3) (zd (zc 7) zm))))) zm))))
   (zG 3 (zE (zd (zE (zd (zc 6) zm)) (zd (zE (zd (As "if") (zd (zc 8) (zd (zc 7) (zd (zc 3) zm))))) zm))))) [some (.frl (ns.map PV.int)),Au c,At s1.length,some bv,Au i,some (.int y),some v,some (.tup [.tup [],.tup [.str "go", .str "deep", .tup m9]]),some (.tup [.str "of", .str (y0[j]'uz)])] t6=X->bD [some (.frl (ns.map PV.int)),Au c,At s1.length,some bv,Au i,z5,z6,z7,z8] s=X:=λh=>zy (zN (zD (zX (zf rfl) (zo rfl (zf rfl) (yY 7 i))) f1)) (zy (zN (zD (jE (zf rfl) (zo (zf rfl) (zo rfl (zf rfl) ((g_ _ _).trans (by rw [a9]))) (fD (hN g1) lO)) (tQ (zf rfl) tR (qL (zo rfl (zf rfl) ((g_ _ _).trans (by rw [a9])))) (Hm (hN g1) (9-i))) (jz (xs:=c_ [("deep", 2)]) rfl (by decide))) f4)) (zy (zN (ya (zX (ya jO (by simp)) (ya (yL rfl rfl (zD (yL (zo (zf rfl) rfl (wA _ _ (by decide) (by decide))) rfl (tQ (zf rfl) tR (qL (zo rfl (zf rfl) ((g_ _ _).trans (by rw [Ho])))) (Hm (hN oY) (10-i)))) f6)) (by simp))) (by simp))) (zy (zN (ya (zX rfl (zo (zf rfl) (zD (yL (zf rfl) rfl (zo rfl (zf rfl) ((g_ _ _).trans (by rw [Ho])))) ej) (fD (hN Bu) uz))) (by simp))) h)))
  have Bg:Bk (.tup [.tup [],.tup [.str "go", .str "deep", .tup m9]]) [.tup [.str "go", .str "deep", .tup m9]] 0:=.leaf [] _ (rn _)
  have ng:dY [("deep", 2)] (y0.take (10-i)) (.tup [.str "go", .str "deep", .tup m9]):=.go _ _ (by rw [Hq];exact jP.mpr rfl) Hr
  have ni:∀v1 v2,dY [("deep", 2)] (y0.take (10-i)) (.tup [.str "if", .tup [.str "of", .str (y0[j]'uz)],v1,v2]):=λv1 v2=>.if_ _ _ _ (.of _ (List.mem_iff_getElem?.mpr ⟨j,by rw [List.getElem?_take_of_lt hj,yB uz]⟩))
  have Ht:∀{Hu:An} {Hv:Ad},cb [("deep", 2)] (y0.take (10-i)) Hu Hv->cb [("deep", 2)] (y0.take (10-(i+1))) (v::Hu) (y0[9-i]'lO::Hv):=λh=>by
   rw [show 10-(i+1)=9-i by omega]
   rw [Tz] at h
   exact .stp _ _ _ _ _ hv h
  have dq:y0.drop (10-(i+1))=y0[9-i]'lO::y0.drop (10-i):=by rw [show 10-(i+1)=9-i by omega];exact TC
  rw [dq]
  by_cases hr0:r=0
  ·refine ⟨[some (.frl (ns.map PV.int)),Au c,At s1.length,some bv,Au i,z5,z6,z7,z8],_,t6,rfl,pre (yJ (zW (zo (zo (zf rfl) rfl ((jk _ _ (by decide)).trans (by rw [er]))) rfl (bJ true (by simp;omega) _))) (zN (ya (zX (ya (zM (zf rfl)) (by simp)) (ya (jE rfl (zf rfl) (zf rfl) (zf rfl)) (by simp))) (by simp)))),⟨_,_,_,_,_,_,rfl,_,_,.node [v] _ _ _ _ _ _ _ B Bg,by omega,by simp;omega,?_⟩,o.trans Bu⟩
   show cb _ _ (v::(.tup [.str "if", _,bv,_]::(ls++[.tup [.str "go", .str "deep", .tup m9]]))) _
   refine Ht (.fin _ _ _ _ (ni _ _) ?_)
   have:=cq.app (l2:=[.tup [.str "go", .str "deep", .tup m9]]) (z2:=[]) (.fin _ _ _ _ (ng.mono λz hz=>wF _ hz) (.nil _))
   simpa using this
  ·refine ⟨[some (.frl (ns.map PV.int)),Au c,At s1.length,some bv,Au i,z5,z6,z7,z8],_,t6,rfl,pre (Ay (zW (zo (zo (zf rfl) rfl ((jk _ _ (by decide)).trans (by rw [er]))) rfl (bJ false (by simp;omega) _))) (zN (ya (zX (ya (zM (zf rfl)) (by simp)) (ya (jE rfl (zf rfl) (zf rfl) (zf rfl)) (by simp))) (by simp)))),⟨_,_,_,_,_,_,rfl,_,_,.node [v] _ _ _ _ _ _ _ Bg B,by omega,by simp;omega,?_⟩,o.trans Bu⟩
   show cb _ _ (v::(.tup [.str "if", _,_,bv]::(.tup [.str "go", .str "deep", .tup m9]::ls))) _
   exact Ht (.fin _ _ _ _ (ni _ _) (.fin _ _ _ _ ng cq))) ⟨⟨_,none,none,none,none,none,rfl,_,0,.leaf [] _ (rn _),yk _,by simp,.fin _ _ _ _ (.go _ _ (by rw [rq];exact jP.mpr rfl) cN) (.nil _)⟩,Old.refl _⟩
 subst he
 refine ⟨[("deep", 2)],[.tup [.str "deep", .tup ((["p", "q"]:Ad).map PV.str),bv]],s4,yf rfl (zy (zN (e1 _ rfl)) (zy (zN (jz (xs:=y0.map PV.str) rfl (by decide))) (zy (zN (ya (zX (ya jO (by simp)) (ya (yL rfl rfl (zD (yL (zf rfl) rfl (zf rfl)) e3)) (by simp))) (by simp))) (zy F (yh (ya (zM (ya (yL rfl (ya (zX rfl rfl) (by simp)) (zf rfl)) (by simp))) (by simp))))))),Hk ?_,o1.trans ((yb _ _).trans (o3.trans o4))⟩
 exact ⟨["p", "q"],y0.drop 2,ls,dd,⟨⟨_,rfl,B⟩,cq,by decide +kernel,by omega,by omega,by simp⟩,rfl⟩
noncomputable abbrev pq:Ad:=["p", "q"]
theorem TF (h:Int) (aim:Str) (st:ae):∃stp as s1,t7 [.int h,.str aim] st=.ok (.tup [.str "if", .tup [.str "of", .str "p"],.tup [.tup [stp],.tup [.str "go", .str aim,.tup as]],.tup [.tup [],.tup [.str "give", .tup [.str "of", .str "q"]]]]) s1/\(∀hs,cJ hs pq "z" stp)/\as.length=2/\(∀a∈as,cm ["p", "q", "z"] a)/\Old st s1:=by
 obtain ⟨a,ha,ea⟩:=bG h 7 (by decide)
 have ea:jc h 7=(a:Int):=ea
 obtain ⟨b,hb,eb⟩:=bG (jH h 7) 5 (by decide)
 have eb:jc (jH h 7) 5=(b:Int):=eb
 obtain ⟨c,hc,ec⟩:=bG (jH h 35) 3 (by decide)
 have ec:jc (jH h 35) 3=(c:Int):=ec
 have K1:∃stp,(∀hs,cJ hs pq "z" stp)/\(zZ (mB (ze yi (ze zY (zc 0) (Ar 7)) (Ar 3)))
  (zG 2 (zE (zd (As "let") (zd (As "z") (zd (As "add") (zd (zE (zd (zE (zd (As "of") (zd (As "p") zm))) (zd (zE (zd (As "is") (zd (Ar 1) zm))) zm))) zm))))))
  ye) [some (.int h),some (.str aim),some (.tup [.str "let", .str "z", .str "down", .tup [.tup [.str "of", .str "p"]]]),none] st=.ok (.nx [some (.int h),some (.str aim),some stp,none]) st:=by
  by_cases h3:a=3
  ·refine ⟨_,?_,yJ (zW (zo (zo (zf rfl) rfl ((jk _ _ (by decide)).trans (by rw [ea]))) rfl (bJ true (by simp;omega) _))) (zN (ya (jE rfl rfl rfl (ya (zX (ya (zX rfl rfl) (by simp)) (ya (zX rfl rfl) (by simp))) (by simp))) (by simp)))⟩
   refine λhs=>.let_ "add" 2 _ (by decide +kernel) (by simp) λy hy=>?_
   rcases yz.mp hy with q|q
   ·rw [q];exact .of _ (by simp)
   ·rw [jP.mp q];exact .is _
  ·refine ⟨_,?_,yu (zW (zo (zo (zf rfl) rfl ((jk _ _ (by decide)).trans (by rw [ea]))) rfl (bJ false (by simp;omega) _)))⟩
   refine λhs=>.let_ "down" 1 _ (by decide +kernel) (by simp) λy hy=>?_
   rw [jP.mp hy];exact .of _ (by simp)
 obtain ⟨stp,cG,E1⟩:=K1
 let A0:An:=[.tup [.str "of", .str "z"],.tup [.str "of", .str "q"]]
 let s1:=st++[SO.lst A0]
 have K2:∃(A1:An) (s2:ae),(zZ (mB (ze yi (ze zY (ze yG (zc 0) (Ar 7)) (Ar 5)) (Ar 2)))
  (mP (zc 3) (Ar 1) (zE (zd (As "is") (zd (ze zY (ze yG (zc 0) (Ar 35)) (Ar 9)) zm))))
  ye) [some (.int h),some (.str aim),some stp,At st.length] s1=.ok (.nx [some (.int h),some (.str aim),some stp,At st.length]) s2/\s2[st.length]?=some (.lst A1)/\(A1.length=2/\∀a∈A1,cm ["p", "q", "z"] a)/\Old st s2:=by
  have a0:cm ["p", "q", "z"] (.tup [.str "of", .str "z"]):=.of _ (by simp)
  have a1:cm ["p", "q", "z"] (.tup [.str "of", .str "q"]):=.of _ (by simp)
  by_cases h2:b=2
  ·have P:=Hi (fo:=zc 3) (fi:=Ar 1) (fv:=(zE (zd (As "is") (zd (ze zY (ze yG (zc 0) (Ar 35)) (Ar 9)) zm)))) (e:=[some (.int h),some (.str aim),some stp,At st.length]) (s:=s1) (i:=1) (ya (zX rfl (zo (zo (zf rfl) rfl (wA _ _ (by decide) (by decide))) rfl (jk _ _ (by decide)))) (by simp)) (zf rfl) rfl (yt _ _) (by simp [A0])
   exact ⟨_,_,yJ (zW (zo (zo (zo (zf rfl) rfl (wA _ _ (by decide) (by decide))) rfl ((jk _ _ (by decide)).trans (by rw [eb]))) rfl (bJ true (by simp;omega) _))) P,ju (by simp [s1]),⟨rfl,λa ha=>by
    rcases yz.mp ha with q|q
    ·rw [q];exact a0
    ·rw [jP.mp q];exact .is _⟩,λn so e=>by rw [yA (by have:=yv e;omega)];exact yb _ _ _ _ e⟩
  ·exact ⟨A0,s1,yu (zW (zo (zo (zo (zf rfl) rfl (wA _ _ (by decide) (by decide))) rfl ((jk _ _ (by decide)).trans (by rw [eb]))) rfl (bJ false (by simp;omega) _))),yt _ _,⟨rfl,λa ha=>by
    rcases yz.mp ha with q|q
    ·rw [q];exact a0
    ·rw [jP.mp q];exact a1⟩,yb _ _⟩
 obtain ⟨A1,s2,E2,h2,Bv,o2⟩:=K2
 have K3:∃(A2:An) (r:Nat) (s3:ae),(zZ (mB (ze yi (ze zY (ze yG (zc 0) (Ar 35)) (Ar 3)) (Ar 1)))
  (zG 3 (qz (zc 3) (bC (wn qj (Ar 1)))))
  ye) [some (.int h),some (.str aim),some stp,At st.length] s2=.ok (.nx [some (.int h),some (.str aim),some stp,At r]) s3/\s3[r]?=some (.lst A2)/\(A2.length=2/\∀a∈A2,cm ["p", "q", "z"] a)/\Old st s3:=by
  by_cases h1:c=1
  ·have pn:bC (wn qj (Ar 1)) [some (.int h),some (.str aim),some stp,At st.length] s2=.ok (some (-1)) s2:=qL (qJ rfl rfl)
   have R:(qz (zc 3) (bC (wn qj (Ar 1)))) [some (.int h),some (.str aim),some stp,At st.length] s2=.ok (.ref s2.length) (s2++[.lst A1.reverse]):=by
    rw [Qi,zf (v:=.ref st.length) rfl,zJ,pn,zJ,Qj,yD h2]
   exact ⟨_,_,_,yJ (zW (zo (zo (zo (zf rfl) rfl (wA _ _ (by decide) (by decide))) rfl ((jk _ _ (by decide)).trans (by rw [ec]))) rfl (bJ true (by simp;omega) _))) (zN R),yt _ _,⟨by rw [List.length_reverse];exact Bv.1,λa ha=>Bv.2 a (List.mem_reverse.mp ha)⟩,o2.trans (yb _ _)⟩
  ·exact ⟨A1,_,s2,yu (zW (zo (zo (zo (zf rfl) rfl (wA _ _ (by decide) (by decide))) rfl ((jk _ _ (by decide)).trans (by rw [ec]))) rfl (bJ false (by simp;omega) _))),h2,Bv,o2⟩
 obtain ⟨A2,r,s3,E3,h3,Hw,o3⟩:=K3
 exact ⟨stp,A2,s3,yf rfl (zy (zN (ya (jE rfl rfl rfl (ya (zM (ya (zX rfl rfl) (by simp))) (by simp))) (by simp))) (zy E1 (zy (zN (jz (xs:=A0) (zX (ya (zX rfl rfl) (by simp)) (ya (zX rfl rfl) (by simp))) (by decide))) (zy E2 (zy E3 (yh (ya (jE rfl (ya (zX rfl rfl) (by simp)) (ya (zX (ya (zM (zf rfl)) (by simp)) (ya (yL rfl (zf rfl) (zD (zM (zf rfl)) (by rw [wM,yD h3]))) (by simp))) (by simp)) (ya (zX (ya jO (by simp)) (ya (zX rfl (ya (zX rfl rfl) (by simp))) (by simp))) (by simp))) (by simp)))))))),cG,Hw.1,Hw.2,o3⟩
def Bw (r:An):nQ (.tup (.str "give" :: r)):=⟨_,_,rfl,uo,n3,m1⟩
def Hx {op:Am}{fo fv:Ai}{e:zj}{s s1:ae}{n:Nat}{xs:An}{x:PV}(ho:fo e s=.ok (.ref n) s) (h:s[n]?=some (.lst xs)) (hv:fv e s=.ok x s1):yT (yN op fo fv) e s=(op (.ref n) x s1).bind λ_ st=>.ok (.nx e) st:=by
 show (yN op fo fv e s).bind _=_
 rw [wz ho h hv rfl]
theorem TH {hs:List (Str×Nat)} {h:Str×Nat} {stp:PV} {aim:Str} {as:An} (cG:cJ hs pq "z" stp) (h2:h.2=2) (ha:(aim,as.length)∈hs) (cN:∀a∈as,cm ["p", "q", "z"] a):f9 hs h (.tup [.str h.1,.tup (pq.map PV.str),.tup [.tup [],.tup [.str "if", .tup [.str "of", .str "p"],.tup [.tup [stp],.tup [.str "go", .str aim,.tup as]],.tup [.tup [],.tup [.str "give", .tup [.str "of", .str "q"]]]]]]):=by
 refine ⟨pq,["z"],_,_,⟨⟨_,rfl,.node [] _ _ _ _ _ _ _ (.leaf [stp] _ (rn _)) (.leaf [] _ (Bw _))⟩,?_,by decide +kernel,by decide,by simp,by simp⟩,h2.symm⟩
 exact .fin _ _ _ _ (.if_ _ _ _ (.of _ (by simp))) (.stp _ _ _ _ _ cG (.fin _ _ _ _ (.go _ _ ha cN) (.fin _ _ _ _ (.give _ (.of _ (by simp))) (.nil _))))
def TJ {hs:List (Str×Nat)} {h:Str×Nat} {aim:Str} (h2:h.2=0) (ha:(aim,0)∈hs):f9 hs h (.tup [.str h.1,.tup [],.tup [.tup [],.tup [.str "go", .str aim,.tup []]]]):=by
 refine ⟨[],[],_,_,⟨⟨_,rfl,.leaf [] _ (rn _)⟩,?_,by simp,by decide,by simp,by simp⟩,h2.symm⟩
 exact .fin _ _ _ _ (.go _ _ ha (λ_ h=>nomatch h)) (.nil _)
noncomputable abbrev jR:Aj:=(zZ (mB (ze iQ (zc 2) (Ar 40)))
  (yT (yN yR (zc 4) (zE (zd (zc 8) (zd (zE zm) (zd (zE (zd (zE zm) (zd (zE (zd (As "go") (zd (zu wB (zd (zc 3) (zd (zc 7) zm))) (zd (zE zm) zm)))) zm))) zm))))))
  (yT (yN yR (zc 4) (zE (zd (zc 8) (zd (zE (zd (As "p") (zd (As "q") zm))) (zd (zE (zd (zE zm) (zd (zu t7 (zd (zc 6) (zd (zu wB (zd (zc 3) (zd (zc 7) zm))) zm))) zm))) zm)))))))
noncomputable abbrev bR:Aj:=(zw (zG 6 (zu jp (zd (zc 0) (zd (ze zT (Ar 7) (ze zY (zc 5) (Ar 50))) zm))))
  (zw (zG 7 (ze zT (zc 5) (Ar 1)))
  (zw (zZ (mB (ze wT (zc 5) (ze wa (zc 2) (Ar 1))))
  (zG 7 (ze zY (zc 6) (zc 2)))
  ye)
  (zw (zG 8 (zu wB (zd (zc 3) (zd (zc 5) zm))))
  jR))))
noncomputable abbrev eR (ns:List Int) (c m sd:Nat) (r:Nat) (z5 z6 z7 z8:Ao):zj:=[some (.frl (ns.map PV.int)),Au c,Au m,Au sd,At r,z5,z6,z7,z8]
theorem TK (ns:List Int) (st:ae):∃hs fs s1,A5 [.frl (ns.map PV.int)] st=.ok (.tup fs) s1/\mZ hs fs/\Old st s1:=by
 obtain ⟨c,s1,hc,o1,e1⟩:=rj ns 6 (by decide) st
 have K:∃m:Nat,0<m/\m<=200/\(zZ (mB (ze yi (ze zY (ze yG (zc 1) (Ar 12)) (Ar 8)) (Ar 1)))
  (zG 2 (ze zT (Ar 1) (ze zY (ze yG (zc 1) (Ar 96)) (Ar 200))))
  ye) [some (.frl (ns.map PV.int)),Au c,some (.int ((1+c%12:Nat):Int)),none,none,none,none,none,none] s1=.ok (.nx [some (.frl (ns.map PV.int)),Au c,Au m,none,none,none,none,none,none]) s1:=by
  by_cases h1:c/12%8=1
  ·refine ⟨1+c/96%200,by omega,by have:=jX (c/96) (show 0<200 by decide);omega,yJ (zW (zo (zo (zo (zf rfl) rfl (ib c 12 (by decide) (by decide))) rfl (jU _ 8 (by decide))) rfl (bJ true (by simp;omega) _))) (zN (zo rfl (zo (zo (zf rfl) rfl (ib c 96 (by decide) (by decide))) rfl (jU _ 200 (by decide))) (yY 1 _)))⟩
  ·exact ⟨1+c%12,by omega,by have:=jX c (show 0<12 by decide);omega,yu (zW (zo (zo (zo (zf rfl) rfl (ib c 12 (by decide) (by decide))) rfl (jU _ 8 (by decide))) rfl (bJ false (by simp;omega) _)))⟩
 obtain ⟨m,TL,hm,E2⟩:=K
 have h9:c/17%900000<900000:=jX _ (by decide)
 obtain ⟨nm,M⟩:=Bn (4*(c/17%900000)+2) (by omega)
 generalize eS:4*(c/17%900000)+2=sd at M
 have s4:sd%4=2:=by omega
 let s2:=s1++[SO.lst []]
 obtain ⟨np,uA⟩:∃np:Nat,np=if 40<m then 0 else 2:=⟨_,rfl⟩
 let hs:List (Str×Nat):=(List.range m).map λk=>(nm k,np)
 have cN:∀k,k<m->(nm k,np)∈hs:=λk hk=>jd.mpr ⟨k,ki.mpr hk,rfl⟩
 have Hy:∀k h,hs[k]?=some h->h=(nm k,np):=λk h e=>by
  simp only [hs,yI,List.getElem?_range] at e
  by_cases hk:k<m
  ·simp [hk] at e;exact e.symm
  ·simp [hk] at e
 have Xa:(m:Int)-1=((m-1:Nat):Int):=by omega
 obtain ⟨e',s3,F,⟨z5,z6,z7,z8,he⟩,ob,fs,h3,nj,lP⟩:=kU (gt:=gN 5) (body:=bR) (fs:=(zd (zc 2) zm)) (e:=eR ns c m sd s1.length none none none none) (st:=s2) (λi e s=>(∃z5 z6 z7 z8,e=eR ns c m sd s1.length z5 z6 z7 z8)/\(∀(k:Nat) so,k≠s1.length->s2[k]?=some so->s[k]?=some so)/\∃fs,s[s1.length]?=some (.lst fs)/\(∀(j:Nat) h f,hs[j]?=some h->fs[j]?=some f->f9 hs h f)/\fs.length=i) m (by omega) (zM (zf rfl)) (λi e s hi ⟨⟨z5,z6,z7,z8,he⟩,ob,fs,h3,nj,lP⟩=>by
  subst he
  have Tv:i%50<50:=jX _ (by decide)
  obtain ⟨y,t1,f1,g1⟩:=i6 ns (7+i%50) (by omega) s
  obtain ⟨r,hr,er⟩:=bG y m TL
  have K:∃a:Nat,a<m/\(zZ (mB (ze wT (zc 5) (ze wa (zc 2) (Ar 1)))) (zG 7 (ze zY (zc 6) (zc 2))) ye) (eR ns c m sd s1.length (Au i) (some (.int y)) (some (.int ((i+1:Nat):Int))) z8) t1=.ok (.nx (eR ns c m sd s1.length (Au i) (some (.int y)) (Au a) z8)) t1:=by
   by_cases h:i=m-1
   ·exact ⟨r,by omega,yJ (zW (zo (zf rfl) (zo (zf rfl) rfl (g_ _ _)) ((vp _ _ _).trans (by rw [show ((i:Int)==(m:Int)-1)=true by simp;omega])))) (zN (zo (zf rfl) (zf rfl) ((jk _ _ (by omega)).trans (by rw [er]))))⟩
   ·exact ⟨i+1,by omega,yu (zW (zo (zf rfl) (zo (zf rfl) rfl (g_ _ _)) ((vp _ _ _).trans (by rw [show ((i:Int)==(m:Int)-1)=false by simp;omega]))))⟩
  obtain ⟨a,ha,E⟩:=K
  obtain ⟨t2,f2,g2⟩:=M.at_ i (by omega) t1
  obtain ⟨t3,f3,g3⟩:=M.at_ a (by omega) t2
  have uB:=g1.trans g2
  have uC:=uB.trans g3
  have J:∃f t4,f9 hs (nm i,np) f/\Old t2 t4/\∀z,yR (.ref s1.length) f t4=z->jR (eR ns c m sd s1.length (Au i) (some (.int y)) (Au a) (some (.str (nm i)))) t2=z.bind λ_ st=>.ok (.nx (eR ns c m sd s1.length (Au i) (some (.int y)) (Au a) (some (.str (nm i))))) st:=by
   by_cases h40:40<m
   ·have n0:np=0:=by rw [uA,zF h40]
    refine ⟨_,t3,TJ (hs:=hs) (h:=(nm i,np)) (aim:=nm a) n0 (by have:=cN a ha;rw [n0] at this;exact this),g3,λz hz=>?_⟩
    subst hz
    refine yJ (zW (zo (zf rfl) rfl (lN true (by simp;omega) _))) ?_
    exact Hx (zf rfl) (uB _ _ h3) (ya (yL (zf rfl) (ya jO (by simp)) (ya (zX (ya jO (by simp)) (ya (yL rfl (zD (zX (zf rfl) (zf rfl)) f3) (ya jO (by simp))) (by simp))) (by simp))) (by simp))
   ·have n2:np=2:=by rw [uA,zR h40]
    obtain ⟨stp,as,t4,f4,cG,rq,Hz,g4⟩:=TF y (nm a) t3
    refine ⟨_,t4,TH (hs:=hs) (h:=(nm i,np)) (aim:=nm a) (cG hs) n2 (by rw [rq];have:=cN a ha;rw [n2] at this;exact this) Hz,g3.trans g4,λz hz=>?_⟩
    subst hz
    refine Ay (zW (zo (zf rfl) rfl (lN false (by simp;omega) _))) ?_
    exact Hx (zf rfl) (uB _ _ h3) (ya (yL (zf rfl) (ya (zX rfl rfl) (by simp)) (ya (zX (ya jO (by simp)) (zD (zX (zf rfl) (zD (zX (zf rfl) (zf rfl)) f3)) f4)) (by simp))) (by simp))
  obtain ⟨f,t4,hf,g4,J⟩:=J
  have oY:=uB.trans g4
  have AP:=kW (y:=f) (oY _ _ h3) (by omega)
  have J':=J _ AP
  rw [zJ] at J'
  refine ⟨eR ns c m sd s1.length (Au i) z6 z7 z8,_,_,rfl,zy (zN (zD (zX (zf rfl) (zo rfl (zo (zf rfl) rfl (jU i 50 (by decide))) (yY 7 _))) f1)) (zy (zN (zo (zf rfl) rfl (yY i 1))) (zy E (zy (zN (zD (zX (zf rfl) (zf rfl)) f2)) J'))),⟨_,_,_,_,rfl⟩,λk so hk e=>by rw [yA (ja hk)];exact oY _ _ (ob k so hk e),_,ju (yv (oY _ _ h3)),λj h f' e1 e2=>?_,by simp [lP]⟩
  by_cases hj:j<fs.length
  ·rw [wQ hj] at e2
   exact nj j h f' e1 e2
  ·rw [iC (by omega)] at e2
   have:j-fs.length=0:=by
    have:=(yl.mp e2).1
    simp at this
    omega
   rw [this] at e2
   cases e2
   have ji:j=i:=by omega
   rw [Hy j h e1,ji]
   exact hf) ⟨⟨none,none,none,none,rfl⟩,λ_ _ _ e=>e,[],yt _ _,(λj h f _ e=>by simp at e),rfl⟩
 subst he
 refine ⟨hs,fs,s3,yf rfl (zy (zN (e1 _ rfl)) (zy (zN (zo rfl (zo (zf rfl) rfl (jU c 12 (by decide))) (yY 1 _))) (zy E2 (zy (zN (zo (zo rfl (zo (zo (zf rfl) rfl (ib c 17 (by decide) (by decide))) rfl (jU _ 900000 (by decide))) (gq 4 _ (.inl (by decide)))) rfl ((yY _ 2).trans (by rw [eS])))) (zy (zN (jz jO (by simp))) (zy F (yh (zD (zM (zf rfl)) (by rw [wM,yD h3]))))))))),⟨⟨by simp [hs];omega,λh hh=>?_⟩,by simp [hs,lP],by simp [hs];omega,?_,nj,?_⟩,λk so e=>ob k so (by have:=yv (o1 _ _ e);omega) (yb _ _ _ _ (o1 _ _ e))⟩
 ·obtain ⟨k,_,rfl⟩:=jd.mp hh
  show np<=6
  rw [uA]
  split<;>omega
 ·rw [show hs.map (·.1)=(List.range m).map nm by simp [hs]]
  exact rm (P:=λ_=>True) (λi j _ _ h=>M.one i j (λq=>absurd s4 q) h) List.nodup_range λ_ _=>trivial
 ·refine .inr λh hh=>?_
  obtain ⟨k,_,rfl⟩:=jd.mp hh
  show np<=2
  rw [uA]
  split<;>omega
noncomputable abbrev bS:Aj:=(zw (zG 7 (ze zT (zc 2) (ze jo (ze jo (Ar 4) (zc 5)) (ze zY (ze yG (zc 1) (Ar 12)) (Ar 2)))))
  (zw (zG 8 (jD (bo (zd (ze zt (zc 6) (Ar 1)) zm)) (zu wB (zd (zc 8) (zd (zc 0) zm)))))
  (yT (yN yR (zc 4) (zE (zd (ze zt (zc 6) (Ar 0)) (zd (zu jM (zd (zc 8) zm)) (zd (zu (kO 6) (zd (zc 0) (zd (zc 5) (zd (Ar 1) (zd (zc 8) (zd (zc 3) (zd (zc 7) zm))))))) zm))))))))
def TM {hs:List (Str×Nat)}{h:Str×Nat}:(c_ hs).set 0 (.tup [.str h.1,.int (h.2:Int)])=c_ (hs.set 0 h):=by unfold c_;rw [List.map_set]
def TQ {r:Nat}:∀{hs:List (Str×Nat)}(pos:0<hs.length),(hs.set 0 ((hs[0]'pos).1,r)).map (·.1)=hs.map (·.1)
 | [],pos=>absurd pos (by simp)
 | x::xs,pos=>rfl
theorem TU (ns:List Int) (st:ae):∃hs fs s1,A9 [.frl (ns.map PV.int)] st=.ok (.tup fs) s1/\mZ hs fs/\Old st s1:=by
 obtain ⟨c,s1,hc,o1,e1⟩:=rj ns 0 (by decide) st
 obtain ⟨sd,s2,Xb,o2,e2⟩:=rj ns 1 (by decide) s1
 obtain ⟨nh,MH⟩:=Bn (c/12) (by omega)
 have h3:c%3<3:=jX _ (by decide)
 obtain ⟨ys,s3,C,⟨hs,q1,q2,q3,q4⟩,o3⟩:=Bh (fe:=(zE (zd (zu wB (zd (ze yG (zc 2) (Ar 12)) (zd (zc 0) zm))) (zd (ze zY (zu jp (zd (zc 1) (zd (ze zT (Ar 2) (zc 0)) zm))) (Ar 4)) zm)))) (fs:=(zd (ze zT (Ar 1) (ze zY (zc 1) (Ar 3))) zm)) (env:=[some (.frl (ns.map PV.int)),Au c,Au sd,none,none,none,none,none,none]) (st:=s2) (1+c%3) (by omega) (zM (zo rfl (zo (zf rfl) rfl (jU c 3 (by decide))) (yY 1 _))) (λi ys s=>(∃hs:List (Str×Nat),ys=c_ hs/\hs.length=i/\(∀h∈hs,h.2<=6)/\hs.map (·.1)=(List.range i).map nh)/\Old s2 s) (λi ys s hi ⟨⟨hs,q1,q2,q3,q4⟩,o⟩=>by
  obtain ⟨t1,f1,g1⟩:=MH.at_ i (by omega) s
  obtain ⟨y,t2,f2,g2⟩:=i6 ns (2+i) (by omega) t1
  obtain ⟨r,hr,er⟩:=bG y 4 (by decide)
  have er:jc y 4=(r:Int):=er
  refine ⟨.tup [.str (nh i),.int (r:Int)],t2,ya (zX (zD (zX (zo (zf rfl) rfl (ib c 12 (by decide) (by decide))) (zf rfl)) f1) (zo (zD (zX (zf rfl) (zo rfl (zf rfl) (yY 2 i))) f2) rfl ((jk _ _ (by decide)).trans (by rw [er])))) (by simp),⟨hs++[(nh i,r)],by rw [q1];simp [c_],by simp [q2],λh hh=>?_,by rw [jA,q4,pj,jA];rfl⟩,o.trans (g1.trans g2)⟩
  rcases jG.mp hh with q|q
  ·exact q3 h q
  ·rw [jP.mp q];show r<=6;omega) ⟨⟨[],rfl,rfl,(λ_ h=>nomatch h),rfl⟩,Old.refl _⟩
 let s4:=s3++[SO.lst ys]
 have h4:s4[s3.length]?=some (.lst (c_ hs)):=by rw [<-q1];exact yt _ _
 have o4:Old s2 s4:=o3.trans (yb _ _)
 have pos:0<hs.length:=by omega
 have K:∃(fh:List (Str×Nat)) (s5:ae),(zZ (mB (ze yi (ze zY (ze yG (zc 1) (Ar 3)) (Ar 4)) (Ar 1)))
  (mP (zc 3) (Ar 0) (zE (zd (ze zt (ze zt (zc 3) (Ar 0)) (Ar 0)) (zd (ze zY (zu jp (zd (zc 0) (zd (Ar 2) zm))) (Ar 7)) zm))))
  ye) [some (.frl (ns.map PV.int)),Au c,Au sd,At s3.length,none,none,none,none,none] s4=.ok (.nx [some (.frl (ns.map PV.int)),Au c,Au sd,At s3.length,none,none,none,none,none]) s5/\s5[s3.length]?=some (.lst (c_ fh))/\Hs fh/\fh.length<=3/\fh.map (·.1)=hs.map (·.1)/\(∀(k:Nat) so,k<s3.length->s4[k]?=some so->s5[k]?=some so):=by
  by_cases h1:c/3%4=1
  ·obtain ⟨y,t1,f1,g1⟩:=i6 ns 2 (by decide) s4
   obtain ⟨r,hr,er⟩:=bG y 7 (by decide)
   have er:jc y 7=(r:Int):=er
   have hA:=Bq (i:=0) h4 pos
   have P:=Hi (fo:=zc 3) (fi:=Ar 0) (fv:=(zE (zd (ze zt (ze zt (zc 3) (Ar 0)) (Ar 0)) (zd (ze zY (zu jp (zd (zc 0) (zd (Ar 2) zm))) (Ar 7)) zm)))) (e:=[some (.frl (ns.map PV.int)),Au c,Au sd,At s3.length,none,none,none,none,none]) (s:=s4) (i:=0) (ya (zX (zo (zo (zf rfl) rfl hA) rfl yK) (zo (zD (zX (zf rfl) rfl) f1) rfl ((jk _ _ (by decide)).trans (by rw [er])))) (by simp)) (zf rfl) rfl (g1 _ _ h4) (by simp;omega)
   refine ⟨hs.set 0 ((hs[0]'pos).1,r),_,yJ (zW (zo (zo (zo (zf rfl) rfl (ib c 3 (by decide) (by decide))) rfl (jU _ 4 (by decide))) rfl (bJ true (by simp;omega) _))) P,?_,⟨by simp;omega,λh hh=>?_⟩,by simp;omega,TQ pos,λk so hk e=>?_⟩
   ·rw [ju (yv (g1 _ _ h4)),<-TM]
   ·rcases List.mem_or_eq_of_mem_set hh with q|q
    ·exact q3 h q
    ·rw [q];show r<=6;omega
   ·rw [yA (by omega)]
    exact g1 _ _ e
  ·exact ⟨hs,s4,yu (zW (zo (zo (zo (zf rfl) rfl (ib c 3 (by decide) (by decide))) rfl (jU _ 4 (by decide))) rfl (bJ false (by simp;omega) _))),h4,⟨pos,q3⟩,by omega,rfl,λ_ _ _ e=>e⟩
 obtain ⟨fh,s5,E5,h5,H,Xc,HA,TV⟩:=K
 let s6:=s5++[SO.lst []]
 have h6:s6[s3.length]?=some (.lst (c_ fh)):=yb _ _ _ _ h5
 have Xd:=yv h5
 obtain ⟨e',s7,F,⟨z5,z6,z7,z8,he⟩,ob,fs,h7,nj,lP⟩:=Hj (g:=g2 5 6) (body:=bS) (n:=s3.length) (c_ fh) (λi e s=>(∃z5 z6 z7 z8,e=[some (.frl (ns.map PV.int)),Au c,Au sd,At s3.length,At s5.length,z5,z6,z7,z8])/\(∀(k:Nat) so,k≠s5.length->s6[k]?=some so->s[k]?=some so)/\∃fs,s[s5.length]?=some (.lst fs)/\(∀(j:Nat) h f,fh[j]?=some h->fs[j]?=some f->f9 fh h f)/\fs.length=i) (λi e s h=>h.2.1 _ _ (by omega) h6) (λi x e s hx ⟨⟨z5,z6,z7,z8,he⟩,ob,fs,h7,nj,lP⟩=>by
  subst he
  have hi:i<fh.length:=by have:=(yl.mp hx).1;simpa using this
  rw [yI,yB hi] at hx
  cases hx
  have fw:=H.few _ (wP hi)
  have HB:fh[i]?=some (fh[i]'hi):=yB hi
  generalize fh[i]'hi=hh at fw HB
  have Xe:c/12%2<2:=jX _ (by decide)
  obtain ⟨nm,M⟩:=Bn (sd+4*i*(c/12%2)) (by
   have:4*i*(c/12%2)<=12*1:=Nat.mul_le_mul (by omega) (by omega)
   omega)
  generalize eO:sd+4*i*(c/12%2)=O at M
  obtain ⟨us,t1,C1,q1,g1⟩:=Bh (fe:=(zu wB (zd (zc 8) (zd (zc 0) zm)))) (fs:=(zd (ze zt (zc 6) (Ar 1)) zm)) (env:=[some (.frl (ns.map PV.int)),Au c,Au sd,At s3.length,At s5.length,Au i,some (.tup [.str hh.1,.int (hh.2:Int)]),Au O,z8]) (st:=s) hh.2 (by omega) (zM (zo (zf rfl) rfl yZ)) (λj us s'=>us=((List.range j).map nm).map PV.str/\Old s s') (λj us s' hj ⟨g1,g2⟩=>by
   obtain ⟨pP,TX,TY⟩:=M.at_ j (by omega) s'
   exact ⟨_,pP,zD (zX (zf rfl) (zf rfl)) TX,by rw [g1];simp [pj],g2.trans TY⟩) ⟨rfl,Old.refl _⟩
  let t2:=t1++[SO.lst us]
  have g2:Old s t2:=g1.trans (yb _ _)
  have hu:t2[t1.length]?=some (.lst (((List.range hh.2).map nm).map PV.str)):=by rw [<-q1];exact yt _ _
  have tu:jM [.ref t1.length] t2=.ok (.tup (((List.range hh.2).map nm).map PV.str)) t2:=by rw [wM,yD hu]
  obtain ⟨bv,t3,ls,dd,is,E3,g3,B,hd2,_,_,Hn,_,_,cq,TZ,tN⟩:=Tj M H ns i (by omega) 6 1 (by decide) (by decide) (by decide) (by decide) (by decide) ((List.range hh.2).map nm) t1.length s3.length t2 (by simp;omega) hu (g2 _ _ (ob _ _ (by omega) h6))
  have uC:=g2.trans g3
  have AP:=kW (y:=.tup [.str hh.1,.tup (((List.range hh.2).map nm).map PV.str),bv]) (uC _ _ h7) (by omega)
  refine ⟨[some (.frl (ns.map PV.int)),Au c,Au sd,At s3.length,At s5.length,Au i,some (.tup [.str hh.1,.int (hh.2:Int)]),z7,z8],_,_,rfl,zy (zN (zo (zf rfl) (zo (zo rfl (zf rfl) (gq 4 i (.inl (by decide)))) (zo (zo (zf rfl) rfl (ib c 12 (by decide) (by decide))) rfl (jU _ 2 (by decide))) (gq _ _ (.inr (by omega)))) ((yY sd _).trans (by rw [eO])))) (zy (zN C1) (wW (wz (zf rfl) (g2 _ _ h7) (ya (yL (zo (zf rfl) rfl yK) (zD (zM (zf rfl)) tu) (zD (wX (zf rfl) (wX (zf rfl) (wX rfl (yL (zf rfl) (zf rfl) (zf rfl))))) E3)) (by simp)) AP))),⟨_,_,_,_,rfl⟩,λk so hk e=>by rw [yA (ja hk)];exact uC _ _ (ob k so hk e),_,ju (yv (uC _ _ h7)),λj h f' k1 k2=>?_,by simp [lP]⟩
  by_cases hj:j<fs.length
  ·rw [wQ hj] at k2
   exact nj j h f' k1 k2
  ·rw [iC (by omega)] at k2
   have j0:j-fs.length=0:=by
    have:=(yl.mp k2).1
    simp at this
    omega
   rw [j0] at k2
   cases k2
   have ji:j=i:=by omega
   rw [ji,HB] at k1
   cases k1
   refine ⟨_,is.map nm,ls,dd,⟨⟨bv,rfl,B⟩,cq,?_,by omega,by omega,by simp;omega⟩,by simp⟩
   rw [<-jA]
   refine rm (P:=λj=>j<20) (λa b ha hb h=>M.one a b (λ_=>⟨ha,hb⟩) h) ?_ λj hj=>?_
   ·rw [List.nodup_append]
    refine ⟨List.nodup_range,TZ,λa ha b hb e=>?_⟩
    subst e
    have:=ki.mp ha
    have:=(tN a hb).1
    omega
   ·rcases jG.mp hj with q|q
    ·have:=ki.mp q
     show j<20
     omega
    ·exact (tN j q).2.1) (c_ fh).length 0 (lim+1) [some (.frl (ns.map PV.int)),Au c,Au sd,At s3.length,At s5.length,none,none,none,none] s6 (by omega) (by simp [lim];omega) ⟨⟨none,none,none,none,rfl⟩,λ_ _ _ e=>e,[],yt _ _,(λj h f _ e=>by simp at e),rfl⟩
 subst he
 have FO:(oE (zd (zc 3) zm) (g2 5 6) bS) [some (.frl (ns.map PV.int)),Au c,Au sd,At s3.length,At s5.length,none,none,none,none] s6=.ok (.nx [some (.frl (ns.map PV.int)),Au c,Au sd,At s3.length,At s5.length,z5,z6,z7,z8]) s7:=by
  unfold oE
  rw [zM (zf rfl),zJ]
  show (yx s6 s3.length _).bind _=_
  rw [yD h6,zJ]
  exact F
 rw [yM] at lP
 refine ⟨fh,fs,s7,yf rfl (zy (zN (e1 _ rfl)) (zy (zN (e2 _ rfl)) (zy (zN C) (zy E5 (zy (zN (jz jO (by simp))) (zy FO (yh (zD (zM (zf rfl)) (by rw [wM,yD h7]))))))))),⟨H,lP,by omega,by rw [HA,q4];exact rm (P:=λj=>j<20) (λa b ha hb h=>MH.one a b (λ_=>⟨ha,hb⟩) h) List.nodup_range λj hj=>(by have:=ki.mp hj;show j<20;omega),nj,.inl (by omega)⟩,λk so e=>?_⟩
 have w2:=o2 _ _ (o1 _ _ e)
 have w4:=o4 _ _ w2
 have kl:=yv (o3 _ _ w2)
 exact ob k so (by omega) (yb _ _ _ _ (TV k so kl w4))
theorem T4 (ns:List Int) (st:ae):∃hs fs s1,A_ [.frl (ns.map PV.int)] st=.ok (.tup fs) s1/\mZ hs fs/\Old st s1:=by
 obtain ⟨y,s1,e1,o1⟩:=i6 ns 5 (by decide) st
 obtain ⟨w,hw,ew⟩:=bG y 8 (by decide)
 have ew:jc y 8=(w:Int):=ew
 have A:∀{X:Res Fl},GP [some (.frl (ns.map PV.int)),Au w] s1=X->GQ [some (.frl (ns.map PV.int)),none] st=X:=λh=>zy (zN (zo (zD (zX (zf rfl) rfl) e1) rfl ((jk _ _ (by decide)).trans (by rw [ew])))) h
 have sk:∀{g h:Aj} {n:Int} {X:Res Fl},(w:Int)≠n->h [some (.frl (ns.map PV.int)),Au w] s1=X->zw (zZ (mB (ze yi (zc 1) (Ar n))) g ye) h [some (.frl (ns.map PV.int)),Au w] s1=X:=λhn h=>zy (yu (zW (zo (zf rfl) rfl (bJ false (by simpa using hn) _)))) h
 have tk:∀{f:Ai} {h:Aj} {n:Int} {v:PV} {s2:ae},(w:Int)=n->f [some (.frl (ns.map PV.int)),Au w] s1=.ok v s2->zw (zZ (mB (ze yi (zc 1) (Ar n))) (zV f) ye) h [some (.frl (ns.map PV.int)),Au w] s1=.ok (.rt v) s2:=λhn h=>jf (yJ (zW (zo (zf rfl) rfl (bJ true (by simpa using hn) _))) (yh h))
 by_cases c6:w=6
 ·obtain ⟨hs,fs,s2,e2,h1,o2⟩:=Tt ns s1
  exact ⟨hs,fs,s2,yf rfl (A (tk (by omega) (zD (zM (zf rfl)) e2))),h1,o1.trans o2⟩
 by_cases c7:w=7
 ·obtain ⟨hs,fs,s2,e2,h1,o2⟩:=TK ns s1
  exact ⟨hs,fs,s2,yf rfl (A (sk (by omega) (tk (by omega) (zD (zM (zf rfl)) e2)))),h1,o1.trans o2⟩
 by_cases c5:w=5
 ·obtain ⟨hs,fs,s2,e2,h1,o2⟩:=Tx ns s1
  exact ⟨hs,fs,s2,yf rfl (A (sk (by omega) (sk (by omega) (tk (by omega) (zD (zM (zf rfl)) e2))))),h1,o1.trans o2⟩
 ·obtain ⟨hs,fs,s2,e2,h1,o2⟩:=TU ns s1
  exact ⟨hs,fs,s2,yf rfl (A (sk (by omega) (sk (by omega) (sk (by omega) (yh (zD (zM (zf rfl)) e2)))))),h1,o1.trans o2⟩
noncomputable def aL:List Bool->Int
 | []=>0
 | b::r=>(if b then 1 else 0)+2*aL r
theorem uD:∀l,0<=aL l
 | []=>by simp [aL]
 | b::r=>by have:=uD r;simp only [aL];split<;>omega
theorem HC:∀(l:List Bool) (b:Bool),aL (l++[b])=aL l+(if b then 2 ^ l.length else 0)
 | [],b=>by simp [aL]
 | a::r,b=>by
  simp only [List.cons_append,aL,HC r b,jt]
  cases b<;>simp [Int.pow_succ]<;>omega
theorem Bx:∀l,aL l<2 ^ l.length
 | []=>by simp [aL]
 | b::r=>by
  have:=Bx r
  simp only [aL,jt,Int.pow_succ]
  split<;>omega
theorem T5 (x:Int) (i:Nat) (h0:0<=x) (h:x<2 ^ i):Builtin.bitOr x (1*2 ^ i)=x+2 ^ i:=by
 rw [PyProof.Rows.bitOr_and]
 have hp:(0:Int)<=2 ^ i:=Int.pow_nonneg (by decide)
 have e:Builtin.bitAnd x (1*2 ^ i)=0:=by
  rw [Int.one_mul]
  unfold Builtin.bitAnd
  rw [jJ h0,jJ hp]
  show ((x.toNat &&& ((2:Int) ^ i).toNat:Nat):Int)=0
  have e2:((2:Int) ^ i).toNat=2 ^ i:=by
   have:((2:Int) ^ i)=((2 ^ i:Nat):Int):=by simp
   rw [this,Int.toNat_natCast]
  rw [e2]
  have hx:x.toNat<2 ^ i:=by
   have:((x.toNat:Nat):Int)<((2 ^ i:Nat):Int):=by rw [Int.toNat_of_nonneg h0];simpa using h
   exact_mod_cast this
  have hz:x.toNat &&& 2 ^ i=0:=by
   apply Nat.eq_of_testBit_eq
   intro j
   rw [Nat.testBit_and,Nat.testBit_two_pow,Nat.zero_testBit]
   by_cases cx:i=j
   ·subst cx;rw [Nat.testBit_lt_two_pow hx];rfl
   ·simp [cx]
  rw [hz];rfl
 rw [e]
 omega
theorem T6 (l:List Bool) (n:Nat) (st:ae) (hn:st[n]?=some (.lst (l.map PV.bl))) (v0:Ao):∀(k i m:Nat) (v2 v3:Ao),l.length-i=k->i<=l.length->k<m->l.length<=1000 ->
  ∃T7 T8,d9 (g2 2 3) (zZ (mB (zc 3)) (zG 1 (ze mH (zc 1) (ze kI (Ar 1) (zc 2)))) ye) n m i [v0,some (.int (aL (l.take i))),v2,v3] st=.ok (.nx [v0,some (.int (aL l)),T7,T8]) st:=by
 intro k
 induction k with
 | zero =>
  intro i m v2 v3 hk hi hm hl
  obtain ⟨m',rfl⟩:∃m',m=m'+1:=⟨m-1,by omega⟩
  have oh:i=l.length:=by omega
  subst oh
  refine ⟨v2,v3,?_⟩
  simp [d9,yx,hn]
 | succ k ih =>
  intro i m v2 v3 hk hi hm hl
  obtain ⟨m',rfl⟩:∃m',m=m'+1:=⟨m-1,by omega⟩
  have bh:i<l.length:=by omega
  have ht:l.take (i+1)=l.take i++[l[i]]:=(List.take_append_getElem bh).symm
  obtain ⟨w2,w3,e⟩:=ih (i+1) m' (some (.int i)) (some (.bl l[i])) (by omega) (by omega) (by omega) hl
  refine ⟨w2,w3,?_⟩
  rw [<-e]
  have hb:=uD (l.take i)
  have HD:=Bx (l.take i)
  have hlen:(l.take i).length=i:=by simp;omega
  rw [hlen] at HD
  have hv:aL (l.take (i+1))=aL (l.take i)+(if l[i] then 2 ^ i else 0):=by rw [ht,HC,hlen]
  have ou:(l.map PV.bl)[i]?=some (.bl l[i]):=by simp [bh]
  conv=>lhs;unfold d9
  simp only [yx,hn,ou,Pw]
  cases hbi:l[i] with
  | true =>
   rw [hbi] at hv
   have ho:=T5 _ i hb HD
   rw [Int.one_mul] at ho
   have hc:dD 1 (i:Int)=true:=by
    simp [dD]
    omega
   simp [hc,ho,hv]
  | false =>
   rw [hbi] at hv
   simp at hv
   simp [hv]
theorem HE (l:List Bool) (hl:l.length<=1000) (n:Nat) (st:ae) (hn:st[n]?=some (.lst (l.map PV.bl))):qQ [.ref n] st=.ok (.int (aL l)) st:=by
 obtain ⟨w2,w3,e⟩:=T6 l n st hn (At n) l.length 0 (lim+1) none none rfl (js _) (by show l.length<1000000+1;omega) hl
 simp only [List.take_zero,aL] at e
 simp [qQ,ym,GU,GS,GR,yx,hn,e]
theorem By:∀(dS:Nat) {v:PV}{ls:An}{dd:Nat}{st:ae},Bk v ls dd->dd<dS->ls.length<=100000->iX dS [v] st=.ok (.tup ls) st:=by
 intro dS
 induction dS with
 | zero=>intro v ls dd st _ h;omega
 | succ dS ih =>
  intro v ls dd st B hd hl
  show Ba (iX dS) [v] st=_
  cases B with
  | leaf ss e hE =>
   obtain ⟨w,r,rfl,_,_,hw⟩:=hE
   simp at hl
   exact yf rfl (zy (zN (zo (zf rfl) rfl yZ)) (zy (zN (zo (zo (zf rfl) rfl yK) (ya (zM (zf rfl)) (by simp)) (iZ (by simp;omega)))) (zy (yu (zW (zo (zo (zf rfl) rfl yK) rfl (dA hw _)))) (yh (zf rfl)))))
  | node ss va v1 v2 l1 l2 d1 d2 B1 B2 =>
   simp at hl
   have e1:=ih (st:=st) B1 (by omega) (by omega)
   have e2:=ih (st:=st) B2 (by omega) (by omega)
   exact yf rfl (zy (zN (zo (zf rfl) rfl yZ)) (zy (zN (zo (zo (zf rfl) rfl yK) (ya (zM (zf rfl)) (by simp)) (iZ (by simp;omega)))) (jf (yJ (zW (zo (zo (zf rfl) rfl yK) rfl (eK _))) (yh (zo (zo (zf rfl) (zD (zM (zo (zf rfl) rfl jI)) e1) (iZ (by simp;omega))) (zD (zM (zo (zf rfl) rfl wC)) e2) (iZ (by simp;omega))))))))
noncomputable abbrev tL:Ak:=(mB (ze iQ (zu yH (zd (zc 2) zm)) (Ar 0)))
noncomputable abbrev iL:Aj:=(zZ (mB (ze yi (ze zt (zc 4) (Ar 0)) (As "if")))
  (zG 2 (ze zT (jb (zd (ze zt (zc 4) (Ar 2)) (zd (ze zt (zc 4) (Ar 3)) zm))) (zc 2)))
  ye)
noncomputable abbrev nq:Aj:=(zw (qp (g2 3 4) (yN tT (zc 2) (Ar 0)))
  (zw (yT (yN tU (zc 1) (zc 3)))
  (zw (yT (yN yR (zc 1) (zc 4)))
  iL)))
def T9 {s:ae}{n:Nat}{xs ys:An}(h:s[n]?=some (.lst xs)) (hl:xs.length+ys.length<=1000000):tU (.ref n) (.tup ys) s=.ok .non (s.set n (.lst (xs++ys))):=by
 show yx s n _=_
 rw [yD h]
 exact zF (by simpa [lim] using hl)
def T_ {s:ae}{n:Nat}{y:PV}{r:An}(h:s[n]?=some (.lst (y::r))):tT (.ref n) (.int 0) s=.ok y (s.set n (.lst r)):=by
 show yx s n _=_
 rw [yD h]
theorem HF {s:ae}{t r:Nat}{W rows ss:An}{ve:PV}{x0 x3 x4:Ao}(ht:s[t]?=some (.lst (.tup [.tup ss,ve]::W))) (hr:s[r]?=some (.lst rows)) (ne:r≠t) (hl:rows.length+ss.length+1<=1000000) :
  ∃s5,(∀X,iL [x0,At r,At t,some (.tup ss),some ve] s5=X->nq [x0,At r,At t,x3,x4] s=X)/\s5[t]?=some (.lst W)/\s5[r]?=some (.lst (rows++ss++[ve]))/\s5.length=s.length/\(∀(m:Nat) so,m≠r->m≠t->s[m]?=some so->s5[m]?=some so):=by
 let s1:=s.set t (SO.lst W)
 have oZ:s1[r]?=some (.lst rows):=by rw [yA (ja ne)];exact hr
 let s2:=s1.set r (SO.lst (rows++ss))
 have Bz:s2[r]?=some (.lst (rows++ss)):=ju (yv oZ)
 have E:=T9 (ys:=ss) oZ (by omega)
 have A:=G6 (y:=ve) Bz (by simp;omega)
 refine ⟨s2.set r (.lst (rows++ss++[ve])),λX h=>zy (S6 (wz (zf rfl) ht rfl (T_ ht))) (zy (wW (wz (zf rfl) oZ (zf rfl) E)) (zy (wW (wz (zf rfl) Bz (zf rfl) A)) h)),?_,ju (yv Bz),by simp [s2,s1],λm so q1 q2 e=>?_⟩
 ·rw [yA ne,yA ne,ju (yv ht)]
 ·rw [yA (ja q1),yA (ja q1),yA (ja q2)];exact e
def HG {fuel:Nat}{e e':zj}{s s':ae}(ht:tL e s=.ok true s) (h:nq e s=.ok (.nx e') s'):cf tL nq (fuel+1) e s=cf tL nq fuel e' s':=by
 rw [qr,ht,zJ,zF rfl,h,zJ]
theorem HH {s:ae}{t:Nat}{W:An}{x:PV}{x0 x1 x3 x4:Ao}(h:s[t]?=some (.lst (x::W))):tL [x0,x1,At t,x3,x4] s=.ok true s:=by
 have L:=wV h
 exact zW (zo (zD (zM (zf rfl)) L) rfl (lN true (by rw [iE,jt];omega) _))
theorem Ua {v:PV}{ls:An}{dd:Nat}(B:Bk v ls dd):∃nb,nb<=ls.length/\∀(fuel:Nat) (s:ae) (t r:Nat) (W rows:An) (x0 x3 x4:Ao),s[t]?=some (.lst (v::W))->s[r]?=some (.lst rows)->r≠t->W.length+dd<=1000->rows.length+ls.length<=100000->∃s' t' Ub Uc,cf tL nq (fuel+nb) [x0,At r,At t,x3,x4] s=cf tL nq fuel [x0,At r,At t',Ub,Uc] s'/\s'[t']?=some (.lst W)/\s'[r]?=some (.lst (rows++ls))/\(∀(m:Nat) so,m≠r->m≠t->s[m]?=some so->s'[m]?=some so)/\(t'=t\/s.length<=t')/\r≠t'/\s.length<=s'.length:=by
 induction B with
 | leaf ss e hE =>
  obtain ⟨w,r0,rfl,_,_,hw⟩:=hE
  refine ⟨1,by simp,λfuel s t r W rows x0 x3 x4 ht hr ne hW hl=>?_⟩
  simp at hl
  obtain ⟨s5,G,g1,g2,g3,g4⟩:=HF (x0:=x0) (x3:=x3) (x4:=x4) ht hr ne (by omega)
  exact ⟨s5,t,_,_,HG (HH ht) (G _ (yu (zW (zo (zo (zf rfl) rfl yK) rfl (dA hw _))))),g1,by rw [<-wG];exact g2,g4,.inl rfl,ne,by omega⟩
 | node ss va v1 v2 l1 l2 d1 d2 B1 B2 Ud Ue =>
  obtain ⟨n1,k1,F1⟩:=Ud
  obtain ⟨n2,k2,F2⟩:=Ue
  refine ⟨n2+n1+1,by simp;omega,λfuel s t r W rows x0 x3 x4 ht hr ne hW hl=>?_⟩
  simp at hl
  obtain ⟨s5,G,g1,g2,g3,g4⟩:=HF (x0:=x0) (x3:=x3) (x4:=x4) ht hr ne (by omega)
  let s6:=s5++[SO.lst [v1,v2]]
  let s7:=s6++[SO.lst ([v1,v2]++W)]
  have o7:Old s5 s7:=(yb _ _).trans (yb _ _)
  have A:zT (.ref s5.length) (.ref t) s6=.ok (.ref s6.length) s7:=oU (yt _ _) (yb _ _ _ _ g1) (by simp;omega)
  have l6:s6.length=s5.length+1:=by simp [s6]
  have l7:s7.length=s5.length+2:=by simp [s7,s6]
  have rl:=yv g2
  have st:=HG (fuel:=fuel+n2+n1) (HH ht) (G _ (yJ (zW (zo (zo (zf rfl) rfl yK) rfl (eK _))) (zN (zo (jz (zX (zo (zf rfl) rfl jI) (zo (zf rfl) rfl wC)) (by simp)) (zf rfl) A))))
  obtain ⟨s8,t8,y3,y4,E1,p1,p2,p3,p4,p5,p6⟩:=F1 (fuel+n2) s7 s6.length r (v2::W) _ x0 _ _ (yt _ _) (o7 _ _ g2) (by omega) (by simp;omega) (by simp;omega)
  obtain ⟨s9,t9,z3,z4,E2,q1,q2,q3,q4,q5,q6⟩:=F2 fuel s8 t8 r W _ x0 _ _ p1 p2 p5 (by omega) (by simp;omega)
  refine ⟨s9,t9,z3,z4,?_,q1,by rw [q2];simp,λm so m1 m2 e=>?_,?_,q5,by omega⟩
  ·rw [show fuel+(n2+n1+1)=fuel+n2+n1+1 by omega]
   exact (st.trans E1).trans E2
  ·have ml:=yv e
   have w5:=o7 _ _ (g4 m so m1 m2 e)
   exact q3 m so m1 (by rcases p4 with h|h<;>omega) (p3 m so m1 (by omega) w5)
  ·right
   rcases q4 with h|h
   ·rw [h];rcases p4 with h|h<;>omega
   ·omega
theorem HI {v:PV}{ls:An}{dd:Nat}(B:Bk v ls dd) (hd:dd<=900) (hl:ls.length<=100000) (st:ae):∃r s1,mU [v] st=.ok (.ref r) s1/\s1[r]?=some (.lst ls)/\Old st s1:=by
 obtain ⟨nb,hnb,F⟩:=Ua B
 let s0:=st++[SO.lst []]
 let s1:=s0++[SO.lst [v]]
 have l0:s0.length=st.length+1:=by simp [s0]
 have ln:lim=1000000:=rfl
 obtain ⟨s2,t2,y3,y4,E,p1,p2,p3,p4,p5,p6⟩:=F (lim-nb) s1 s0.length st.length [] [] (some v) none none (yt _ _) (yb _ _ _ _ (yt _ _)) (by omega) (by simp;omega) (by simp;omega)
 have e1:lim-nb+nb=lim:=by omega
 rw [e1] at E
 obtain ⟨f,hf⟩:∃f,lim-nb=f+1:=⟨lim-nb-1,by omega⟩
 have L:=wV p1
 have T:tL [some v,At st.length,At t2,y3,y4] s2=.ok false s2:=zW (zo (zD (zM (zf rfl)) L) rfl (lN false (by simp) _))
 have E2:cf tL nq (lim-nb) [some v,At st.length,At t2,y3,y4] s2=.ok (.nx [some v,At st.length,At t2,y3,y4]) s2:=by
  rw [hf,qr,T,zJ,zR (by simp)]
 exact ⟨st.length,s2,yf rfl (zy (zN (jz jO (by simp))) (zy (zN (jz (zM (zf rfl)) (by simp))) (zy (E.trans E2) (yh (zf rfl))))),p2,λm so e=>p3 m so (by have:=yv e;omega) (by have:=yv e;omega) (yb _ _ _ _ (yb _ _ _ _ e))⟩
noncomputable def rz:PV->Str
 | .tup (.str w::_)=>w
 | _ => ""
noncomputable def d_ (w:PV):Bool:=decide (rz w = "let" \/ rz w = "call")
def Ug {hs:List (Str×Nat)}{ks:Ad}{z:Str}{s:PV}(h:cJ hs ks z s):d_ s=true:=by
 cases h with
 | let_ o n as=>simp only [d_,rz,true_or,decide_true]
 | call f as=>simp only [d_,rz,or_true,decide_true]
def HJ {e:PV}(h:nR e):d_ e=false:=by
 obtain ⟨w,r,rfl,h1,h2⟩:=h
 simp only [d_,rz,h1,h2,gy,decide_false]
theorem HK {hs:List (Str×Nat)}{s:PV}{ks:Ad}{z:Str}(h:cJ hs ks z s) (st:ae):lM [s] st=.ok (.bl true) st:=by
 have key:∀(w:Str) (r:An),((("let" : Str)==w)||(("call" : Str)==w))=true->lM [.tup (.str w::r)] st=.ok (.bl true) st:=λw r hc=>yf rfl (yh (zo (zo (zf rfl) rfl yK) (ya (zX rfl rfl) (by simp)) (oV w true hc st)))
 cases h with
 | let_ o n as=>exact key _ _ (by decide +kernel)
 | call f as=>exact key _ _ (by decide +kernel)
def Uh {e:PV}(h:nR e) (st:ae):lM [e] st=.ok (.bl false) st:=by
 obtain ⟨w,r,rfl,h1,h2⟩:=h
 exact yf rfl (yh (zo (zo (zf rfl) rfl yK) (ya (zX rfl rfl) (by simp)) (oV w false (by simp [ja h1,ja h2]) st)))
def BA {hs:List (Str×Nat)}{ks:Ad}{z:Str}{v:PV}(h:cJ hs ks z v) (s:ae):zt v (.int 1) s=.ok (.str z) s:=by
 cases h with
 | let_ o n as=>exact yZ
 | call f as=>exact yZ
theorem HL:∀zs:Ad,bK (zs.map PV.str)=true
 | []=>rfl
 | z::zs=>by simp [bK,Mi.plain,HL zs]
theorem HM:∀zs:Ad,dk (zs.map PV.str)=0
 | []=>rfl
 | z::zs=>by simp [dk,dep,HM zs]
def Ui (z:Str) (zs:Ad):(zs.map PV.str).any (λy=>bz y (.str z))=decide (z∈zs):=by
 simp only [List.any_map,Function.comp_def,bz]
 rw [Bool.eq_iff_iff,List.any_eq_true,iE]
 constructor
 ·rintro ⟨x,hx,e⟩
  rw [beq_iff_eq] at e
  exact e▸hx
 ·intro h
  exact ⟨z,h,by simp⟩
theorem uE {α:Type}:∀{ks:Ad}{xs:List α}{j:Nat}{z:Str}{x:α},ks.Nodup->ks[j]?=some z->xs[j]?=some x->(ks.zip xs).lookup z=some x
 | [],_,_,_,_,_,h,_=>by simp at h
 | _::_,[],_,_,_,_,_,h=>by simp at h
 | k::ks,y::xs,0,z,x,_,h,h'=>by
  simp at h h'
  subst h h'
  simp [gd]
 | k::ks,y::xs,j+1,z,x,nd,h,h'=>by
  rw [jB] at nd
  simp at h h'
  have ne:(z==k)=false:=by
   rw [beq_eq_false_iff_ne]
   intro e
   exact nd.1 (e▸jV h)
  rw [List.zip_cons_cons,gd,ne]
  exact uE nd.2 h h'
theorem HN {α:Type}{z:Str}:∀{ks:Ad}{xs:List α},z∉ks->(ks.zip xs).lookup z=none
 | [],_,_=>by simp
 | _::_,[],_=>by simp
 | k::ks,x::xs,h=>by
  have ne:(z==k)=false:=by
   rw [beq_eq_false_iff_ne]
   intro e
   exact h (by rw [e];exact yO ..)
  rw [List.zip_cons_cons,gd,ne]
  exact HN λhm=>h (yX _ hm)
def Uj {s:ae}{d:Nat}{ks:Ad}{xs:An}{z:Str}{b:Bool}(h:s[d]?=some (.dic ks xs)) (hb:((ks.zip xs).lookup z).isSome=b):yS false (.str z) (.ref d) s=.ok (.bl b) s:=by
 simp [yS,h,hb]
def Uk {fa fb:Ai}{e:zj}{st s1:ae}(h:fa e st=.ok (.bl false) s1):gQ fa fb e st=.ok (.bl false) s1:=by
 rw [Ek,h,zJ,xS,zJ,zR (by simp)]
noncomputable def aJ (L:Ad):PV->Bool
 | .tup [.str w,.str z]=>decide (w = "of")&&decide (z∈L)
 | _=>false
theorem HP:("is" : Str) ≠ "of" := by decide +kernel
def uF (L:Ad) (z:Str):aJ L (.tup [.str "of", .str z])=decide (z∈L):=by simp [aJ]
def uG (L:Ad) (v:PV):aJ L (.tup [.str "is", v])=false:=by
 cases v with
 | str z=>simp [aJ,HP]
 | _=>rfl
def HQ {z:Str}{L:Ad}{xs:An}(hl:L.length=xs.length):((L.zip xs).lookup z).isSome=decide (z∈L):=by
 by_cases h:z∈L
 ·rw [jJ h]
  induction L generalizing xs with
  | nil=>cases h
  | cons y r ih =>
   cases xs with
   | nil=>simp at hl
   | cons x xs =>
    rw [List.zip_cons_cons,gd]
    by_cases e:z=y
    ·simp [e]
    ·have e':(z==y)=false:=by simpa using e
     rw [e']
     exact ih (by simpa using hl) ((yz.mp h).resolve_left e)
 ·rw [HN h,jC h];rfl
theorem Ul {s:ae}{n:Nat}{L:Ad}{z:Str}(h:s[n]?=some (.lst (L.map PV.str))):yS false (.str z) (.ref n) s=.ok (.bl (decide (z∈L))) s:=by
 simp only [yS,h]
 rw [zF ⟨rfl,HL L,by rw [HM];omega⟩,Ui,Bool.false_xor]
def o_ (L:Ad) (s:ae) (d:Nat):Prop:=(∃xs,s[d]?=some (.dic L xs)/\L.length=xs.length)\/s[d]?=some (.lst (L.map PV.str))
def Um {L:Ad}{s:ae}{d:Nat}{z:Str}(h:o_ L s d):yS false (.str z) (.ref d) s=.ok (.bl (decide (z∈L))) s:=by
 rcases h with ⟨xs,h,hl⟩|h
 ·exact Uj h (HQ hl)
 ·exact Ul h
def Uo {ks:Ad} {a:PV} (h:cm ks a) {L:Ad} {s:ae} {d:Nat} (hd:o_ L s d) {e:zj} {i:Nat} (h0:e[0]?=some (some a)) (hi:e[i]?=some (At d)):gQ (ze yi (ze zt (zc 0) (Ar 0)) (As "of")) (ze (yS false) (ze zt (zc 0) (Ar 1)) (zc i)) e s=.ok (.bl (aJ L a)) s:=by
 cases h with
 | of z hz=>rw [uF];exact qK (zo (zo (zf h0) rfl yK) rfl (eK _)) (zo (zo (zf h0) rfl yZ) (zf hi) (Um hd))
 | is v=>rw [uG];exact Uk (zo (zo (zf h0) rfl yK) rfl (dA HP _))
theorem uH {ks:Ad}{as:An}(has:∀a∈as,cm ks a) (hl:as.length<=1000) {L:Ad}{s:ae}{d:Nat}(hd:o_ L s d):kQ [.tup as,.ref d] s=.ok (.int (aL (as.map (aJ L)))) (s++[.lst ((as.map (aJ L)).map PV.bl)]):=by
 have C:=oF (fe:=gQ (ze yi (ze zt (zc 0) (Ar 0)) (As "of")) (ze (yS false) (ze zt (zc 0) (Ar 1)) (zc 2))) (env:=[some (.tup as),At d]) (f:=λa=>.bl (aJ L a)) (st:=s) as (λx hx=>Uo (has x hx) hd rfl rfl) []
 have em:List.map (λa=>PV.bl (aJ L a)) as=List.map PV.bl (List.map (aJ L) as):=by simp
 rw [List.nil_append,em] at C
 have B:=HE (as.map (aJ L)) (by simpa using hl) s.length (s++[.lst ((as.map (aJ L)).map PV.bl)]) (yt _ _)
 refine yf rfl (yh (zD (zM ?_) B))
 rw [lH,j7,zf rfl,zJ]
 show (Res.ok (Sq.im as) s).bind _=_
 rw [zJ,lI,zF (by simp [lim];omega)]
 exact C
theorem HR (l:List Bool):decide (aL l≠0)=l.any id:=by
 induction l with
 | nil=>simp [aL]
 | cons b r ih =>
  have h:=uD r
  rw [List.any_cons,<-ih]
  cases b with
  | true=>simp only [aL,zF,id,Bool.true_or];rw [iE];simp;omega
  | false=>simp [aL]
noncomputable def kP:Key->PV
 | .inl i=>.int i
 | .inr z=>.str z
noncomputable abbrev aW (k:List Key):PV:=.tup (k.map kP)
theorem BB:∀k:List Key,dw (k.map kP)=some k
 | []=>rfl
 | x::r=>by
  have e:FI (kP x)=some x:=by cases x<;>rfl
  rw [yo]
  unfold dw
  rw [e,BB r]
noncomputable abbrev cg {α:Type}(ks:List α):An:=ks.map λ_=>.bl true
def IsT (ks:Ag) (s:ae) (n:Nat):Prop:=dy s[n]?=some (ks,cg ks)
def uI {old:Am}{neg:Bool}{k:List Key}{ks:Ag}{s:ae}{n:Nat}(h:IsT ks s n):cz old neg (aW k) (.ref n) s=.ok (.bl (neg.xor (bj k ks))) (s.set n (.dit ks (cg ks))):=by
 unfold cz
 simp only [BB]
 rw [show dy s[n]?=some (ks,cg ks) from h]
def IsT.lt {ks:Ag}{s:ae}{n:Nat}(h:IsT ks s n):n<s.length:=by
 unfold IsT at h
 cases e:s[n]? with
 | none=>rw [e] at h;cases h
 | some so=>exact (yl.mp e).1
def lQ {ks:Ag}{s:ae}{n:Nat}(h:n<s.length):IsT ks (s.set n (.dit ks (cg ks))) n:=by
 unfold IsT
 rw [ju h]
 rfl
noncomputable def cA (ks:Ag) (k:List Key):Ag:=if bj k ks=true then ks else ks++[k]
theorem HS {k:List Key}:∀ks:Ag,hV k (PV.bl true) ks (cg ks)=cg ks
 | []=>rfl
 | x::r=>by
  rw [show cg (x::r)=PV.bl true::cg r from rfl]
  unfold hV
  rw [HS r,ite_self]
def Up {k:List Key}{ks:Ag}:h_ k (.bl true) ks (cg ks)=(cA ks k,cg (cA ks k)):=by
 unfold h_ cA
 by_cases h:bj k ks=true
 ·rw [zF h,zF h,HS]
 ·rw [zR h,zR h];simp [cg]
def uJ {fo fi fv:Ai}{e:zj}{s:ae}{n:Nat}{k:List Key}{ks:Ag}(hv:fv e s=.ok (.bl true) s) (ho:fo e s=.ok (.ref n) s) (hi:fi e s=.ok (aW k) s) (h:IsT ks s n) (hl:ks.length<1000000) :
  mS fo fi fv e s=.ok (.nx e) (s.set n (.dit (cA ks k) (cg (cA ks k)))):=by
 unfold mS
 rw [hv,zJ,ho,zJ,hi,zJ]
 have P:mR (aW k) (.bl true) (.ref n) s=.ok () (s.set n (.dit (cA ks k) (cg (cA ks k)))):=by
  unfold mR
  simp only [BB]
  rw [show dy s[n]?=some (ks,cg ks) from h]
  simp only
  rw [zF (by simpa [lim] using hl),Up]
 rw [P,zJ]
def HU {ks:Ag}{k x:List Key}:x∈cA ks k↔x∈ks\/x=k:=by
 unfold cA
 by_cases h:bj k ks=true
 ·rw [zF h]
  exact ⟨.inl,λq=>q.elim id λe=>e▸tX.mp h⟩
 ·rw [zR h];simp
def HV (ks:Ag) (k:List Key):(cA ks k).length<=ks.length+1:=by
 unfold cA
 split<;>simp
noncomputable abbrev bM:Aj:=(mS (zc 1) (zc 2) (mC (.bl true)))
def bx (n:Nat) (s s':ae):Prop:=∀(m:Nat) so,m≠n->s[m]?=some so->s'[m]?=some so
def bx.refl (n:Nat) (s:ae):bx n s s:=λ_ _ _ e=>e
def bx.trans {n:Nat}{a b c:ae}(h:bx n a b) (h':bx n b c):bx n a c:=λm so q e=>h' m so q (h m so q e)
def i9 {n:Nat}{s:ae}{o:SO}:bx n s (s.set n o):=λm so q e=>by rw [yA (ja q)];exact e
def Old.bar {n:Nat}{s s':ae}(h:Old s s'):bx n s s':=λm so _ e=>h m so e
def IsT.old {ks:Ag}{s s':ae}{n:Nat}(h:IsT ks s n) (o:Old s s'):IsT ks s' n:=by
 unfold IsT at h ⊢
 cases e:s[n]? with
 | none=>rw [e] at h;cases h
 | some so=>rw [o n so e];rw [e] at h;exact h
theorem Uq (ws:Ag) (hl:ws.length<=1000) (st:ae):∃ks s1,gn [.tup (ws.map aW)] st=.ok (.ref st.length) s1/\IsT ks s1 st.length/\(∀k,k∈ks↔k∈ws)/\ks.length<=ws.length/\Old st s1:=by
 obtain ⟨e',s1,F,⟨z2,he⟩,ks,hT,hm,hk,ob⟩:=dg (g:=gN 2) (body:=bM) (ws.map aW) (λi e s=>(∃z2,e=[some (.tup (ws.map aW)),At st.length,z2])/\∃ks,IsT ks s st.length/\(∀k,k∈ks↔k∈ws.take i)/\ks.length<=i/\bx st.length (st++[.dic [] []]) s) (λi x e s hx ⟨⟨z2,he⟩,ks,hT,hm,hk,ob⟩=>by
  subst he
  rw [yI] at hx
  obtain ⟨k,gY,rfl⟩:=Option.map_eq_some_iff.mp hx
  have hi:i<ws.length:=(yl.mp gY).1
  refine ⟨[some (.tup (ws.map aW)),At st.length,some (aW k)],_,_,rfl,uJ rfl (zf rfl) (zf rfl) hT (by omega),⟨_,rfl⟩,cA ks k,lQ hT.lt,λx=>?_,by have:=HV ks k;omega,ob.trans i9⟩
  rw [HU,hm,kS gY,jG,jP]) ws.length 0 [some (.tup (ws.map aW)),At st.length,none] (st++[.dic [] []]) (by simp) ⟨⟨none,rfl⟩,[],by unfold IsT;rw [yt];rfl,by simp,yk _,bx.refl _ _⟩
 subst he
 rw [yM] at hm hk
 rw [List.take_length] at hm
 have FO:(yU (yQ (zc 0)) (gN 2) bM) [some (.tup (ws.map aW)),At st.length,none] (st++[.dic [] []])=.ok (.nx [some (.tup (ws.map aW)),At st.length,z2]) s1:=by
  rw [gX,j7,zf rfl,zJ]
  show (Res.ok (Sq.im (ws.map aW)) (st++[.dic [] []])).bind _=_
  rw [zJ]
  exact F
 exact ⟨ks,s1,yf rfl (zy (zN rfl) (zy FO (yh (zf rfl)))),hT,hm,hk,λm so e=>ob m so (by have:=yv e;omega) (yb _ _ _ _ e)⟩
theorem Ur {r:Nat}{k:List Key}{st:ae}(hr:st[r]?=some (.lst [aW k])):∃s1,gn [.ref r] st=.ok (.ref st.length) s1/\IsT [k] s1 st.length/\Old st s1:=by
 have BC:(st++[SO.dic [] []])[r]?=some (.lst [aW k]):=yb _ _ _ _ hr
 have h0:IsT [] (st++[SO.dic [] []]) st.length:=by unfold IsT;rw [yt];rfl
 have P:=uJ (fo:=zc 1) (fi:=zc 2) (fv:=mC (.bl true)) (e:=[At r,At st.length,some (aW k)]) rfl (zf rfl) (zf rfl) h0 (by simp)
 have rl:r≠st.length:=by have:=yv hr;omega
 obtain ⟨e',s1,F,⟨z2,he⟩,hs⟩:=uh (g:=gN 2) (body:=bM) (n:=r) [aW k] (λi e s=>(∃z2,e=[At r,At st.length,z2])/\s=if i=0 then st++[SO.dic [] []] else (st++[SO.dic [] []]).set st.length (.dit (cA [] k) (cg (cA [] k)))) (λi e s ⟨_,h⟩=>by
   rw [h]
   split
   ·exact BC
   ·rw [yA (ja rl)];exact BC) (λi x e s hx ⟨⟨z2,he⟩,h⟩=>by
  have i0:i=0:=by have:=(yl.mp hx).1;simp at this;omega
  subst i0 he
  cases hx
  rw [zF rfl] at h
  subst h
  exact ⟨_,_,_,rfl,P,⟨_,rfl⟩,(zR (by omega)).symm⟩) 1 0 (lim+1) [At r,At st.length,none] (st++[SO.dic [] []]) rfl (by simp [lim]) ⟨⟨none,rfl⟩,(zF rfl).symm⟩
 subst he
 rw [zR (by simp)] at hs
 subst hs
 have FO:(yU (yQ (zc 0)) (gN 2) bM) [At r,At st.length,none] (st++[SO.dic [] []])=.ok (.nx [At r,At st.length,z2]) ((st++[SO.dic [] []]).set st.length (.dit (cA [] k) (cg (cA [] k)))):=by
  rw [gX,j7,zf rfl,zJ,tE,yD BC,zJ]
  exact F
 exact ⟨_,yf rfl (zy (zN rfl) (zy FO (yh (zf rfl)))),lQ h0.lt,λm so e=>by rw [yA (by have:=yv e;omega)];exact yb _ _ _ _ e⟩
theorem HW (ps:Ad) (nd:ps.Nodup) (hl:ps.length<=1000) (st:ae):∃s1,gn [.tup (ps.map PV.str)] st=.ok (.ref st.length) s1/\s1[st.length]?=some (.dic ps (cg ps))/\Old st s1:=by
 obtain ⟨e',s1,F,⟨z2,he⟩,hd,ob⟩:=dg (g:=gN 2) (body:=bM) (ps.map PV.str) (λi e s=>(∃z2,e=[some (.tup (ps.map PV.str)),At st.length,z2])/\s[st.length]?=some (.dic (ps.take i) (cg (ps.take i)))/\bx st.length (st++[.dic [] []]) s) (λi x e s hx ⟨⟨z2,he⟩,hd,ob⟩=>by
  subst he
  rw [yI] at hx
  obtain ⟨z,hz,rfl⟩:=Option.map_eq_some_iff.mp hx
  have hi:i<ps.length:=(yl.mp hz).1
  have zn:z∉ps.take i:=λhm=>by
   obtain ⟨j,hj⟩:=List.getElem?_of_mem hm
   have jl:j<i:=by have:=(yl.mp hj).1;simp at this;omega
   rw [List.getElem?_take_of_lt jl] at hj
   obtain ⟨h1,h2⟩:=yl.mp hj
   obtain ⟨h3,h4⟩:=yl.mp hz
   have:=Bi nd h1 h3 (h2.trans h4.symm)
   omega
  have P:=uk (fo:=zc 1) (fi:=zc 2) (fv:=mC (.bl true)) (e:=[some (.tup (ps.map PV.str)),At st.length,some (.str z)]) (s:=s) rfl (zf rfl) (zf rfl) hd (by simp;omega)
  have dp:wL z (.bl true) (ps.take i) (cg (ps.take i))=(ps.take (i+1),cg (ps.take (i+1))):=by
   unfold wL
   rw [zR (by simpa using zn),kS hz]
   simp [cg]
  rw [dp] at P
  have P':bM [some (.tup (ps.map PV.str)),At st.length,some (.str z)] s=_:=P
  exact ⟨_,_,_,rfl,P',⟨_,rfl⟩,ju (yv hd),ob.trans i9⟩) ps.length 0 [some (.tup (ps.map PV.str)),At st.length,none] (st++[.dic [] []]) (by simp) ⟨⟨none,rfl⟩,yt _ _,bx.refl _ _⟩
 subst he
 rw [yM,List.take_length] at hd
 have FO:(yU (yQ (zc 0)) (gN 2) bM) [some (.tup (ps.map PV.str)),At st.length,none] (st++[.dic [] []])=.ok (.nx [some (.tup (ps.map PV.str)),At st.length,z2]) s1:=by
  rw [gX,j7,zf rfl,zJ]
  show (Res.ok (Sq.im (ps.map PV.str)) (st++[.dic [] []])).bind _=_
  rw [zJ]
  exact F
 exact ⟨s1,yf rfl (zy (zN rfl) (zy FO (yh (zf rfl)))),hd,λm so e=>ob m so (by have:=yv e;omega) (yb _ _ _ _ e)⟩
noncomputable abbrev pk (f z:Str):List Key:=[.inr f,.inr z]
def lR {x:PV}{r:An}{st:ae}:aR zt (.tup (x::r)) (.int 0) st=.ok x st:=yK
def uK {x y:PV}{r:An}{st:ae}:aR zt (.tup (x::y::r)) (.int 1) st=.ok y st:=yZ
def Us {x y z w:PV}{r:An}{st:ae}:aR zt (.tup (x::y::z::w::r)) (.int 3) st=.ok w st:=wC
theorem Ut {f:Str}{ps:Ad}{r:An}(hl:ps.length<=1000) {ks:Ag}{s:ae}{q:Nat}(hT:IsT ks s q):∃s1,qU [.tup (.str f :: .tup (ps.map PV.str)::r),.ref q] s=.ok (.int (aL (ps.map λp=>bj (pk f p) ks))) s1/\IsT ks s1 q/\bx q s s1/\s.length<=s1.length:=by
 obtain ⟨ys,s',C,hy,pd,ob,cq⟩:=uf (fe:=(ze (cz (yS false) false) (zE (zd (ze (aR zt) (zc 1) (Ar 0)) (zd (zc 0) zm))) (zc 2))) (env:=[some (.tup (.str f :: .tup (ps.map PV.str)::r)),At q]) (ps.map PV.str) (λi ys s'=>ys=((ps.take i).map λp=>bj (pk f p) ks).map PV.bl/\IsT ks s' q/\bx q s s'/\s.length<=s'.length) (λi x ys s' hx ⟨hy,pd,ob,cq⟩=>by
  rw [yI] at hx
  obtain ⟨z,hz,rfl⟩:=Option.map_eq_some_iff.mp hx
  have R:=uI (old:=yS false) (neg:=false) (k:=pk f z) pd
  rw [Bool.false_xor] at R
  refine ⟨_,_,zo (ya (zX (zo (zf rfl) rfl lR) (zf rfl)) (by simp)) (zf rfl) R,?_,lQ pd.lt,ob.trans i9,by simpa using cq⟩
  rw [hy,kS hz]
  simp) ps.length 0 [] s (by simp) ⟨rfl,hT,bx.refl _ _,yk _⟩
 rw [yM,List.take_length] at hy
 have B:=HE (ps.map λp=>bj (pk f p) ks) (by simpa using hl) s'.length (s'++[.lst ys]) (by rw [hy];exact yt _ _)
 refine ⟨s'++[.lst ys],yf rfl (yh (zD (zM ?_) B)),pd.old (yb _ _),ob.trans (yb _ _).bar,by simp;omega⟩
 rw [lH,j7,zo (zf rfl) rfl uK,zJ]
 show (Res.ok (Sq.im (ps.map PV.str)) s).bind _=_
 rw [zJ,lI,zF (by simp [lim];omega)]
 exact C
noncomputable def bitAt (b:Int) (i:Nat):Bool:=decide (b/2 ^ i%2=1)
noncomputable def picks (p:Nat->Bool):Nat->List Str->Ad
 | _,[]=>[]
 | i,z::r=>if p i then z::picks p (i+1) r else picks p (i+1) r
theorem BD {ft:Ak}{fe:Ai}{env:zj}{st:ae}{p:Nat->Bool}:∀(zs:Ad) (i:Nat) (ys:An),(∀(j:Nat) z,i<=j->j<i+zs.length->ft (some (.int j)::some (.str z)::env) st=.ok (p j) st)->(∀(j:Nat) z,fe (some (.int j)::some (.str z)::env) st=.ok (.str z) st)->dR ft fe env i (zs.map PV.str) ys st=.ok (.ref st.length) (st++[.lst (ys++(picks p i zs).map PV.str)])
 | [],i,ys,_,_=>by simp [dR,picks]
 | z::r,i,ys,h,h'=>by
  rw [yo]
  unfold dR
  rw [h i z (yk _) (by simp),mG,zJ]
  unfold picks
  cases hp:p i with
  | true =>
   rw [zF rfl,zF rfl,h' i z,mG,zJ,BD r (i+1) _ (λj z a b=>h j z (by omega) (by simp;omega)) h']
   simp
  | false =>
   rw [zR (by simp),zR (by simp),BD r (i+1) _ (λj z a b=>h j z (by omega) (by simp;omega)) h']
theorem nr {p:Nat->Bool}:∀{zs:Ad}{i:Nat},(picks p i zs).Sublist zs
 | [],_=>.slnil
 | z::r,i=>by
  unfold picks
  split
  ·exact (nr).cons₂ z
  ·exact (nr).cons z
theorem Uu (x:Int) (h:0<=x):Builtin.bitAnd x 1=x%2:=by
 unfold Builtin.bitAnd
 rw [jJ h]
 show ((x.toNat &&& 1:Nat):Int)=_
 rw [Nat.and_one_is_mod]
 omega
theorem BE (j:Nat) (hj:j<=1000) (st:ae):kI (.int 1) (.int (j:Int)) st=.ok (.int (2 ^ j)) st:=by
 have hc:dD 1 (j:Int)=true:=by simp [dD];omega
 show (if dD 1 (j:Int)=true then Res.ok (PV.int (1*2 ^ (j:Int).toNat)) st else .stuck)=_
 rw [zF hc,Int.one_mul,Int.toNat_natCast]
def Uv (b:Int) (hb:0<=b) (j:Nat) (st:ae):ua [.int b,.int (j:Int)] st=.ok (.bl (bitAt b j)) st:=by
 have S:xY (.int b) (.int (j:Int)) st=.ok (.int (b/2 ^ j)) st:=by
  have hc:qv b (j:Int)=true:=by simp [qv]
  show (if qv b (j:Int)=true then Res.ok (PV.int (b/2 ^ (j:Int).toNat)) st else .stuck)=_
  rw [zF hc,Int.toNat_natCast]
 have nn:0<=b/2 ^ j:=Int.ediv_nonneg hb (Int.pow_nonneg (by decide))
 have A:xX (.int (b/2 ^ j)) (.int 1) st=.ok (.int (b/2 ^ j%2)) st:=by
  show (if c0 (b/2 ^ j) 1=true then Res.ok (PV.int (Builtin.bitAnd (b/2 ^ j) 1)) st else .stuck)=_
  rw [zF rfl,Uu _ nn]
 exact yf rfl (yh (zo (zo (zo (zf rfl) (zf rfl) S) rfl A) rfl (AA _ _)))
theorem HX {f:PV}{ps:Ad}{r:An}(b:Int) (hb:0<=b) (hl:ps.length<=1000) (st:ae):oP [.tup (f :: .tup (ps.map PV.str)::r),.int b] st=.ok (.tup ((picks (bitAt b) 0 ps).map PV.str)) (st++[.lst ((picks (bitAt b) 0 ps).map PV.str)]):=by
 have C:=BD (ft:=(mB (zu ua (zd (zc 3) (zd (zc 0) zm))))) (fe:=zc 1) (env:=[some (.tup (f :: .tup (ps.map PV.str)::r)),some (.int b)]) (st:=st) (p:=bitAt b) ps 0 [] (λj z _ _=>zW (zD (zX (zf rfl) (zf rfl)) (Uv b hb j st))) (λj z=>zf rfl)
 rw [List.nil_append] at C
 refine yf rfl (yh (zD (zM ?_) (by rw [wM,yD (yt _ _)])))
 unfold AI
 rw [zM (zo (zf rfl) rfl yZ),zJ]
 show (Res.bind (if _ then _ else _) _)=_
 rw [zF (by simp [lim];omega),zJ]
 exact C
noncomputable def cW:List Bool->List Bool->List Bool
 | a::r,b::s=>(a||b)::cW r s
 | _,_=>[]
noncomputable def bN:List Bool->Nat
 | []=>0
 | b::r=>b.toNat+2*bN r
theorem uL:∀l,aL l=(bN l:Int)
 | []=>rfl
 | b::r=>by
  rw [aL,bN,uL r]
  cases b<;>simp
theorem HY:∀(a b:List Bool),a.length=b.length->(bN a:Int)+bN b-((bN a &&& bN b:Nat):Int)=bN (cW a b)
 | [],[],_=>by simp [bN,cW]
 | [],_::_,h=>by simp at h
 | _::_,[],h=>by simp at h
 | x::a,y::b,h=>by
  have ih:=HY a b (by simpa using h)
  have e:bN (x::a) &&& bN (y::b)=(x&&y).toNat+2*(bN a &&& bN b):=by
   apply Nat.eq_of_testBit_eq
   intro j
   rw [Nat.testBit_and]
   cases j with
   | zero=>simp only [Nat.testBit_zero,bN];cases x<;>cases y<;>simp<;>omega
   | succ j =>
    have h1:∀(z:Bool) (n:Nat),(z.toNat+2*n)/2=n:=λz n=>by cases z<;>simp<;>omega
    simp only [Nat.testBit_succ,bN,h1,Nat.testBit_and]
  rw [e,show cW (x::a) (y::b)=(x||y)::cW a b from rfl]
  simp only [bN]
  cases x<;>cases y<;>simp<;>omega
def BG {a b:List Bool}(h:a.length=b.length):Builtin.bitOr (aL a) (aL b)=aL (cW a b):=by
 rw [PyProof.Rows.bitOr_and,uL,uL,uL,<-HY a b h]
 unfold Builtin.bitAnd
 rw [jJ (Int.natCast_nonneg _),jJ (Int.natCast_nonneg _)]
 simp
structure FD where
 nz:Str
 ps:Ad
 zs:Ad
 ls:An
 bv:PV
noncomputable def FD.v (F:FD):PV:=.tup [.str F.nz,.tup (F.ps.map PV.str),F.bv]
noncomputable abbrev FD.h (F:FD):Str×Nat:=(F.nz,F.ps.length)
structure a7 (hs:List (Str×Nat)) (F:FD):Prop where
 bk:∃dd,dd<=8/\Bk F.bv F.ls dd
 ln:cb hs F.ps F.ls F.zs
 nd:(F.ps++F.zs).Nodup
 nl:F.ls.length<=100
 np:F.ps.length<=6
structure aP (Fs:List FD):Prop where
 ok:Hs (Fs.map FD.h)
 few:Fs.length<=200
 nd:(Fs.map (·.nz)).Nodup
 fn:∀F∈Fs,a7 (Fs.map FD.h) F
 sz:Fs.length<=3\/∀F∈Fs,F.ps.length<=2
theorem HZ {hs:List (Str×Nat)}:∀(rA:List (Str×Nat)) (rB:An),rB.length=rA.length->(∀(i:Nat) h f,rA[i]?=some h->rB[i]?=some f->f9 hs h f)->∃Fs:List FD,rB=Fs.map FD.v/\rA=Fs.map FD.h/\∀F∈Fs,a7 hs F
 | [],[],_,_=>⟨[],rfl,rfl,λ_ h=>nomatch h⟩
 | [],_::_,h,_=>by simp at h
 | _::_,[],h,_=>by simp at h
 | h::rA,f::rB,hl,hf=>by
  obtain ⟨Fs,e1,e2,e3⟩:=HZ rA rB (by simpa using hl) (λi h f a b=>hf (i+1) h f (by simpa using a) (by simpa using b))
  obtain ⟨ps,zs,ls,dd,⟨⟨bv,rfl,B⟩,ln,nd,dp,nl,np⟩,hp⟩:=hf 0 h f rfl rfl
  refine ⟨⟨h.1,ps,zs,ls,bv⟩::Fs,by rw [e1];rfl,by rw [e2,yo,show FD.h ⟨h.1,ps,zs,ls,bv⟩=h from by show (h.1,ps.length)=h;rw [hp]],λF hF=>?_⟩
  rcases yz.mp hF with q|q
  ·rw [q];exact ⟨⟨dd,dp,B⟩,ln,nd,nl,np⟩
  ·exact e3 F q
def Uw {hs:List (Str×Nat)}{fs:An}(h:mZ hs fs):∃Fs,fs=Fs.map FD.v/\aP Fs:=by
 obtain ⟨Fs,e1,e2,e3⟩:=HZ hs fs h.len h.fn
 refine ⟨Fs,e1,⟨e2▸h.ok,?_,?_,λF hF=>e2▸e3 F hF,?_⟩⟩
 ·have:=h.few;rw [e2] at this;simpa using this
 ·have:=h.nd;rw [e2,List.map_map] at this;exact this
 ·have:=h.sz;rw [e2] at this
  exact this.imp (by simp) λh F hF=>h _ (List.mem_map_of_mem hF)
theorem H8 {l:Ad}(nd:l.Nodup) {i:Nat}{z:Str}(hz:l[i]?=some z):z∉l.take i:=λhm=>by
 obtain ⟨j,hj⟩:=List.getElem?_of_mem hm
 have jl:j<i:=by have:=(yl.mp hj).1;simp at this;omega
 rw [List.getElem?_take_of_lt jl] at hj
 obtain ⟨h1,h2⟩:=yl.mp hj
 obtain ⟨h3,h4⟩:=yl.mp hz
 have:=Bi nd h1 h3 (h2.trans h4.symm)
 omega
def BH {z:Str}{x:PV}{ks:Ad}{xs:An}(h:z∉ks):wL z x ks xs=(ks++[z],xs++[x]):=by
 unfold wL
 rw [zR (by simpa using h)]
theorem H9 {Fs:List FD}(P:aP Fs) (st:ae):∃s1,t_ [.tup (Fs.map FD.v)] st=.ok (.ref st.length) s1/\s1[st.length]?=some (.dic (Fs.map (·.nz)) (Fs.map FD.v))/\Old st s1:=by
 have few:=P.few
 obtain ⟨e',s1,F,⟨z2,he⟩,hd,ob⟩:=dg (g:=gN 2) (body:=(iT (zc 1) (ze zt (zc 2) (Ar 0)) (zc 2))) (Fs.map FD.v) (λi e s=>(∃z2,e=[some (.tup (Fs.map FD.v)),At st.length,z2])/\s[st.length]?=some (.dic ((Fs.take i).map (·.nz)) ((Fs.take i).map FD.v))/\bx st.length (st++[.dic [] []]) s) (λi x e s hx ⟨⟨z2,he⟩,hd,ob⟩=>by
  subst he
  rw [yI] at hx
  obtain ⟨F,hF,rfl⟩:=Option.map_eq_some_iff.mp hx
  have hi:i<Fs.length:=(yl.mp hF).1
  have zn:F.nz∉(Fs.take i).map (·.nz):=by
   rw [List.map_take]
   exact H8 P.nd (by rw [yI,hF];rfl)
  have Pt:=uk (fo:=zc 1) (fi:=(ze zt (zc 2) (Ar 0))) (fv:=zc 2) (e:=[some (.tup (Fs.map FD.v)),At st.length,some F.v]) (s:=s) (zf rfl) (zf rfl) (zo (zf rfl) rfl yK) hd (by simp;omega)
  rw [BH zn] at Pt
  refine ⟨_,_,_,rfl,Pt,⟨_,rfl⟩,?_,ob.trans i9⟩
  rw [ju (yv hd),kS hF]
  simp) Fs.length 0 [some (.tup (Fs.map FD.v)),At st.length,none] (st++[.dic [] []]) (by simp) ⟨⟨none,rfl⟩,yt _ _,bx.refl _ _⟩
 subst he
 rw [yM,List.take_length] at hd
 have FO:(yU (yQ (zc 0)) (gN 2) (iT (zc 1) (ze zt (zc 2) (Ar 0)) (zc 2))) [some (.tup (Fs.map FD.v)),At st.length,none] (st++[.dic [] []])=.ok (.nx [some (.tup (Fs.map FD.v)),At st.length,z2]) s1:=by
  rw [gX,j7,zf rfl,zJ]
  show (Res.ok (Sq.im (Fs.map FD.v)) (st++[.dic [] []])).bind _=_
  rw [zJ]
  exact F
 exact ⟨s1,yf rfl (zy (zN rfl) (zy FO (yh (zf rfl)))),hd,λm so e=>ob m so (by have:=yv e;omega) (yb _ _ _ _ e)⟩
noncomputable abbrev nu (q b:Nat):SO:=.ins "Holding" ["pairs", "bits_by_name"] [.ref q,.ref b]
noncomputable def hb (ks:Ag) (F:FD):Int:=aL (F.ps.map λp=>bj (pk F.nz p) ks)
structure dB (Fs:List FD) (ks:Ag) (o q b:Nat) (s:ae):Prop where
 at_:s[o]?=some (nu q b)
 ps:IsT ks s q
 bs:s[b]?=some (.dic (Fs.map (·.nz)) (Fs.map λF=>.int (hb ks F)))
 n1:o≠q
 n2:b≠q
def dB.bar {Fs:List FD}{ks:Ag}{o q b:Nat}{s s':ae}(h:dB Fs ks o q b s) (hb:bx q s s') (hT:IsT ks s' q):dB Fs ks o q b s':=⟨hb _ _ h.n1 h.at_,hT,hb _ _ h.n2 h.bs,h.n1,h.n2⟩
def dB.old {Fs:List FD}{ks:Ag}{o q b:Nat}{s s':ae}(h:dB Fs ks o q b s) (hb:Old s s'):dB Fs ks o q b s':=h.bar hb.bar (h.ps.old hb)
def H_ {s:ae} {o q b:Nat} (h:s[o]?=some (nu q b)):cS "pairs" insOf excOf (.ref o) s=.ok (.ref q) s:=by
 rw [Eo,xT h,zF (by simp [insOf])]
 rfl
def Ia {s:ae} {o q b:Nat} (h:s[o]?=some (nu q b)):cS "bits_by_name" insOf excOf (.ref o) s=.ok (.ref b) s:=by
 rw [Eo,xT h,zF (by simp [insOf])]
 rfl
def pe {ks:Ag}{s:ae}{n q:Nat}{x:SO}(h:IsT ks s q) (ne:n≠q):IsT ks (s.set n x) q:=by
 unfold IsT at h ⊢
 rw [yA ne]
 exact h
def Ib {m n:Nat}{g:Aj}{xs:An}{st r:ae}{e:zj}(hl:xs.length=m) (h:g (xs.map some++List.replicate (n-m) none) st=.ok (.nx e) r):ym m n g xs st=.ok .non r:=by
 unfold ym
 rw [zF hl,h]
 rfl
def Ic {f:Str} {fo fv:Ai} {e:zj} {s s1:ae} {o:Nat} {x:PV} {ks:Ad} {xs:An} (hv:fv e s=.ok x s1) (ho:fo e s1=.ok (.ref o) s1) (h:s1[o]?=some (.ins "Holding" ks xs)) (hl:ks.length<1000):sFld f insOf fo fv e s=.ok (.nx e) (s1.set o (.ins "Holding" (Mi.putK f x ks xs).1 (Mi.putK f x ks xs).2)):=by
 rw [PB,hv,zJ,ho,zJ]
 show (wo s1 o _).bind _=_
 rw [xT h,zF ⟨by simp [insOf],hl⟩,zJ]
noncomputable abbrev bH:Aj:=(iT (wn (cS "bits_by_name" insOf excOf) (zc 0)) (ze zt (zc 3) (Ar 0)) (zu qU (zd (zc 3) (zd (wn (cS "pairs" insOf excOf) (zc 0)) zm))))
theorem Ux {Fs:List FD} (P:aP Fs) (ws:Ag) (hw:ws.length<=1000) (st:ae):∃ks q b s1,lC "Holding" uc [.tup (Fs.map FD.v),.tup (ws.map aW)] st=.ok (.ref st.length) s1/\dB Fs ks st.length q b s1/\(∀k,k∈ks↔k∈ws)/\st.length<q/\q<b/\Old st s1:=by
 have few:=P.few
 let o:=st.length
 let t0:=st++[SO.ins "Holding" [] []]
 have h0:t0[o]?=some (.ins "Holding" [] []):=yt _ _
 obtain ⟨ks,t1,E1,rD,hm,hk,o1⟩:=Uq ws hw t0
 have lo:o<t0.length:=yv h0
 have h1:=o1 _ _ h0
 let t2:=t1.set o (.ins "Holding" ["pairs"] [.ref t0.length])
 have Ie:IsT ks t2 t0.length:=pe rD (by omega)
 have h2:t2[o]?=some (.ins "Holding" ["pairs"] [.ref t0.length]):=ju (yv h1)
 let t3:=t2++[SO.dic [] []]
 have h3:t3[o]?=some (.ins "Holding" ["pairs"] [.ref t0.length]):=yb _ _ _ _ h2
 let t4:=t3.set o (nu t0.length t2.length)
 have qb:t0.length<t2.length:=by have:=Ie.lt;exact this
 have l2:o<t2.length:=yv h2
 have h4:t4[o]?=some (nu t0.length t2.length):=ju (yv h3)
 have Uy:IsT ks t4 t0.length:=pe (Ie.old (yb _ _)) (by omega)
 have b4:t4[t2.length]?=some (.dic [] []):=by rw [yA (by omega)];exact yt _ _
 have o4:∀(m:Nat) so,st[m]?=some so->t4[m]?=some so:=λm so e=>by
  have ml:=yv e
  rw [yA (by omega)]
  refine yb _ _ _ _ ?_
  rw [yA (by omega)]
  exact o1 _ _ (yb _ _ _ _ e)
 obtain ⟨e',s1,F,⟨z3,he⟩,g1,g2,g3,g4⟩:=dg (g:=gN 3) (body:=bH) (Fs.map FD.v) (λi e s=>(∃z3,e=[At o,some (.tup (Fs.map FD.v)),some (.tup (ws.map aW)),z3])/\s[o]?=some (nu t0.length t2.length)/\IsT ks s t0.length/\s[t2.length]?=some (.dic ((Fs.take i).map (·.nz)) ((Fs.take i).map λF=>.int (hb ks F)))/\∀(m:Nat) so,st[m]?=some so->s[m]?=some so) (λi x e s hx ⟨⟨z3,he⟩,g1,g2,g3,g4⟩=>by
  subst he
  rw [yI] at hx
  obtain ⟨F,hF,rfl⟩:=Option.map_eq_some_iff.mp hx
  have hi:i<Fs.length:=(yl.mp hF).1
  have np:=(P.fn F (jV hF)).np
  have zn:F.nz∉(Fs.take i).map (·.nz):=by
   rw [List.map_take]
   exact H8 P.nd (by rw [yI,hF];rfl)
  obtain ⟨s',EB,pd,ob,cq⟩:=Ut (f:=F.nz) (ps:=F.ps) (r:=[F.bv]) (by omega) g2
  have Ig:=ob _ _ (show o≠t0.length by omega) g1
  have Pt:=uk (fo:=(wn (cS "bits_by_name" insOf excOf) (zc 0))) (fi:=(ze zt (zc 3) (Ar 0))) (fv:=(zu qU (zd (zc 3) (zd (wn (cS "pairs" insOf excOf) (zc 0)) zm)))) (e:=[At o,some (.tup (Fs.map FD.v)),some (.tup (ws.map aW)),some F.v]) (s:=s) (zD (zX (zf rfl) (qJ (zf rfl) (H_ g1))) EB) (qJ (zf rfl) (Ia Ig)) (zo (zf rfl) rfl yK) (ob _ _ (by omega) g3) (by simp;omega)
  rw [BH zn] at Pt
  refine ⟨_,_,_,rfl,Pt,⟨_,rfl⟩,?_,pe pd (by omega),?_,λm so e=>?_⟩
  ·rw [yA (by omega)];exact Ig
  ·rw [ju (yv (ob _ _ (by omega) g3)),kS hF]
   simp [hb]
  ·have ml:=yv e
   rw [yA (by omega)]
   exact ob _ _ (by omega) (g4 m so e)) Fs.length 0 [At o,some (.tup (Fs.map FD.v)),some (.tup (ws.map aW)),none] t4 (by simp) ⟨⟨none,rfl⟩,h4,Uy,b4,o4⟩
 subst he
 rw [yM,List.take_length] at g3
 have FO:(yU (yQ (zc 1)) (gN 3) bH) [At o,some (.tup (Fs.map FD.v)),some (.tup (ws.map aW)),none] t4=.ok (.nx [At o,some (.tup (Fs.map FD.v)),some (.tup (ws.map aW)),z3]) s1:=by
  rw [gX,j7,zf rfl,zJ]
  show (Res.ok (Sq.im (Fs.map FD.v)) t4).bind _=_
  rw [zJ]
  exact F
 have D1:=Ic (f := "pairs") (fo:=zc 0) (fv:=(zu gn (zd (zc 2) zm))) (e:=[At o,some (.tup (Fs.map FD.v)),some (.tup (ws.map aW)),none]) (s:=t0) (zD (zM (zf rfl)) E1) (zf rfl) h1 (by simp)
 have D2:=Ic (f := "bits_by_name") (fo:=zc 0) (fv:=qt) (e:=[At o,some (.tup (Fs.map FD.v)),some (.tup (ws.map aW)),none]) (s:=t2) (s1:=t3) (x:=.ref t2.length) rfl (zf rfl) h3 (by simp)
 have I:uc [.ref o,.tup (Fs.map FD.v),.tup (ws.map aW)] t0=.ok .non s1:=Ib rfl (zy D1 (zy D2 FO))
 refine ⟨ks,t0.length,t2.length,s1,?_,⟨g1,g2,g3,by omega,by omega⟩,hm,lo,qb,g4⟩
 unfold lC
 rw [I,zJ]
 rfl
def BI {name:Str} {tab:Str->Option (Al)} {fo:Ai} {fs:Ah} {m:Al} {ys:An} {X:Res PV} {e:zj} {s s1:ae} {o q b:Nat} (ho:fo e s=.ok (.ref o) s) (h:s[o]?=some (nu q b)) (hn:name∉(["pairs", "bits_by_name"]:Ad)) (ht:tab "Holding" = some m) (hf:fs e s=.ok ys s1) (hm:m (.ref o::ys) s1=X):iS name tab fo fs e s=X:=by
 unfold iS
 rw [ho,zJ]
 show wo s o _=_
 unfold wo
 rw [h]
 simp only
 rw [zR hn,ht]
 simp only
 rw [hf,zJ,hm]
def BJ {s:ae}{n:Nat}{ks:Ad}{xs:An}{z:Str}{x:PV}(h:s[n]?=some (.dic ks xs)) (hl:(ks.zip xs).lookup z=some x):zt (.ref n) (.str z) s=.ok x s:=by
 show jY s n _=_
 unfold jY
 rw [h]
 simp only
 rw [hl]
 rfl
noncomputable def dm (ks:Ag) (L:Ad) (F:FD) (as:An):List Bool:=cW (as.map (aJ L)) (F.ps.map λp=>bj (pk F.nz p) ks)
theorem Uz {Fs:List FD}(P:aP Fs) {ks:Ag}{o q b:Nat}{s:ae}(H:dB Fs ks o q b s) {F:FD}(hF:F∈Fs) {as:An}{nk:Ad}(ha:∀a∈as,cm nk a) (hl:F.ps.length=as.length) {L:Ad}{d:Nat}(hd:o_ L s d):m_Holding_goal_of [.ref o,.tup [.str F.nz,.tup as],.ref d] s=.ok (.int (aL (dm ks L F as))) (s++[.lst ((as.map (aJ L)).map PV.bl)]):=by
 have np:=(P.fn F hF).np
 have N:=uH ha (by omega) hd
 let s1:=s++[SO.lst ((as.map (aJ L)).map PV.bl)]
 have H1:dB Fs ks o q b s1:=H.old (yb _ _)
 obtain ⟨i,hi⟩:=List.getElem?_of_mem hF
 have lk:((Fs.map (·.nz)).zip (Fs.map λF=>PV.int (hb ks F))).lookup F.nz=some (.int (hb ks F)):=uE (j:=i) P.nd (by rw [yI,hi];rfl) (by rw [yI,hi];rfl)
 have O:mH (.int (aL (as.map (aJ L)))) (.int (hb ks F)) s1=.ok (.int (aL (dm ks L F as))) s1:=by
  have e:Builtin.bitOr (aL (as.map (aJ L))) (hb ks F)=aL (dm ks L F as):=by
   unfold hb
   rw [BG (by simp;omega)]
   rfl
  show (if c0 (aL (as.map (aJ L))) (hb ks F)=true then Res.ok (PV.int (Builtin.bitOr (aL (as.map (aJ L))) (hb ks F))) s1 else .stuck)=_
  rw [zF rfl,e]
 exact yf rfl (yh (zo (zD (zX (zo (zf rfl) rfl yZ) (zf rfl)) N) (zo (qJ (zf rfl) (Ia H1.at_)) (zo (zf rfl) rfl yK) (BJ H1.bs lk)) O))
def Ih {z o:Str} {as:An} {hs:List (Str×Nat)} {ks:Ad} (h:cJ hs ks z (.tup [.str "let", .str z,.str o,.tup as])) (s:ae):oQ [.tup [.str "let", .str z,.str o,.tup as]] s=.ok (.tup as) s:=yf rfl (jf (yJ (zW (zD (zM (zf rfl)) (HK h s))) (yh (zo (zf rfl) rfl wC))))
def UA {nz z f:Str} {as:An} {o q b d:Nat} {s:ae}:m_Holding_makes_later [.ref o,.str nz,.tup [.str "call", .str z,.str f,.tup as],.ref d] s=.ok (.bl true) s:=yf rfl (jf (yJ (FE (zW (zo (zo (zf rfl) rfl lR) rfl (eK _)))) (yh rfl)))
def Ii (i:Int) (st:ae):jL (.int i) (.int 0) st=.ok (.bl (decide (i≠0))) st:=by
 simp [jL,Mi.plain,dep,bz]
 rfl
def UB {Fs:List FD} {ks:Ag} {o q b:Nat} {s:ae} (H:dB Fs ks o q b s) {nz z op:Str} {as:An} {hs:List (Str×Nat)} {nk:Ad} (h:cJ hs nk z (.tup [.str "let", .str z,.str op,.tup as])) (ha:∀a∈as,cm nk a) (hl:as.length<=1000) {L:Ad} {d:Nat} (hd:o_ L s d) :
  ∃s1,m_Holding_makes_later [.ref o,.str nz,.tup [.str "let", .str z,.str op,.tup as],.ref d] s=.ok (.bl (as.any (aJ L)||bj (pk nz z) ks)) s1/\dB Fs ks o q b s1/\bx q s s1:=by
 have N:=uH ha hl hd
 let s1:=s++[SO.lst ((as.map (aJ L)).map PV.bl)]
 have H1:dB Fs ks o q b s1:=H.old (yb _ _)
 have B:decide (aL (as.map (aJ L))≠0)=as.any (aJ L):=by rw [HR,List.any_map];rfl
 have T:(jw (mB (ze yi (ze (aR zt) (zc 2) (Ar 0)) (As "call"))) (mB (ze jL (zu kQ (zd (zu oQ (zd (zc 2) zm)) (zd (zc 3) zm))) (Ar 0)))) [At o,some (.str nz),some (.tup [.str "let", .str z,.str op,.tup as]),At d] s=.ok (as.any (aJ L)) s1:=by
  refine iW (zW (zo (zo (zf rfl) rfl lR) rfl (dA n1 _))) (zW (zo (zD (zX (zD (zM (zf rfl)) (Ih h s)) (zf rfl)) N) rfl ?_))
  rw [Ii,B]
 cases hany:as.any (aJ L) with
 | true =>
  rw [hany] at T
  exact ⟨s1,yf rfl (jf (yJ T (yh rfl))),H1,(yb _ _).bar⟩
 | false =>
  rw [hany] at T
  have R:=uI (old:=yS false) (neg:=false) (k:=pk nz z) H1.ps
  rw [Bool.false_xor] at R
  rw [Bool.false_or]
  exact ⟨_,yf rfl (zy (yu T) (yh (zo (ya (zX (zf rfl) (zo (zf rfl) rfl uK)) (by simp)) (qJ (zf rfl) (H_ H1.at_)) R))),H1.bar i9 (lQ H1.ps.lt),(yb _ _).bar.trans i9⟩
inductive Li where
 | let_ (z:Str) (as:An)|call (z f:Str) (as:An)|go (f:Str) (as:An)|oth
noncomputable def li:PV->Li
 | .tup [.str w,.str z,.str o,.tup as]=>if w = "let" then .let_ z as else if w = "call" then .call z o as else .oth
 | .tup [.str w,.str f,.tup as]=>if w = "go" then .go f as else .oth
 | _=>.oth
def ig {z o:Str} {as:An}:li (.tup [.str "let", .str z,.str o,.tup as])=.let_ z as:=by simp [li]
def ik {z o:Str} {as:An}:li (.tup [.str "call", .str z,.str o,.tup as])=.call z o as:=by simp [li,ja n1]
def iq {f:Str} {as:An}:li (.tup [.str "go", .str f,.tup as])=.go f as:=by simp [li]
noncomputable def gl (Fs:List FD) (ks:Ag) (L:Ad) (f:Str) (as:An):Int:=match Fs.find? λF=>decide (F.nz=f) with
 | some F=>aL (dm ks L F as)
 | none=>0
theorem rE:∀{Fs:List FD}{F:FD},(Fs.map (·.nz)).Nodup->F∈Fs->Fs.find? (λG=>decide (G.nz=F.nz))=some F
 | [],_,_,h=>nomatch h
 | G::Fs,F,nd,h=>by
  rw [yo,jB] at nd
  rw [List.find?_cons]
  rcases yz.mp h with q|q
  ·rw [<-q,jJ rfl]
  ·have ne:¬G.nz=F.nz:=λe=>nd.1 (jd.mpr ⟨F,q,e.symm⟩)
   rw [jC ne]
   exact rE nd.2 q
def uM {Fs:List FD}(P:aP Fs) {F:FD}(h:F∈Fs) (ks:Ag) (L:Ad) (as:An):gl Fs ks L F.nz as=aL (dm ks L F as):=by
 unfold gl
 rw [rE P.nd h]
def rF {Fs:List FD}{f:Str}{n:Nat}(h:(f,n)∈Fs.map FD.h):∃F∈Fs,F.nz=f/\F.ps.length=n:=by
 obtain ⟨F,hF,e⟩:=jd.mp h
 cases e
 exact ⟨F,hF,rfl,rfl⟩
noncomputable def wk (Fs:List FD) (ks:Ag) (nz:Str):List Str->List Li->List Str×List Int
 | _,[]=>([],[])
 | L,.let_ z as::r=>if (as.any (aJ L)||bj (pk nz z) ks)=true then (z::(wk Fs ks nz (L++[z]) r).1,(wk Fs ks nz (L++[z]) r).2) else wk Fs ks nz L r
 | L,.call z f as::r=>(z::(wk Fs ks nz (L++[z]) r).1,gl Fs ks L f as::(wk Fs ks nz (L++[z]) r).2)
 | L,.go f as::r=>((wk Fs ks nz L r).1,gl Fs ks L f as::(wk Fs ks nz L r).2)
 | L,.oth::r=>wk Fs ks nz L r
structure BF (Fs:List FD) (ks:Ag) (o q b d a g:Nat) (s0 s:ae) (L stp:Ad) (cD:List Int):Prop where
 H:dB Fs ks o q b s
 D:s[d]?=some (.dic L (cg L))
 A:s[a]?=some (.lst (stp.map PV.str))
 G:s[g]?=some (.lst (cD.map PV.int))
 F:∀(m:Nat) so,m≠q->m<d->s0[m]?=some so->s[m]?=some so
 i1:o<d
 i2:q<d
 i3:b<d
 i4:d<a
 i5:a<g
section
variable {Fs:List FD}{ks:Ag}{o q b d a g:Nat}{s0 s s':ae}{L stp:Ad}{cD:List Int}
theorem BF.bar (h:BF Fs ks o q b d a g s0 s L stp cD) (k:bx q s s') (hT:dB Fs ks o q b s'):BF Fs ks o q b d a g s0 s' L stp cD :=
 have j1:=h.i2;have j2:=h.i4;have j3:=h.i5
 ⟨hT,k _ _ (by omega) h.D,k _ _ (by omega) h.A,k _ _ (by omega) h.G,λm so x y z=>k m so x (h.F m so x y z),h.i1,h.i2,h.i3,h.i4,h.i5⟩
def BF.old (h:BF Fs ks o q b d a g s0 s L stp cD) (k:Old s s'):BF Fs ks o q b d a g s0 s' L stp cD:=h.bar k.bar (h.H.old k)
def nA {n:Nat}{x:SO}(h:dB Fs ks o q b s) (a1:n≠o) (a2:n≠q) (a3:n≠b):dB Fs ks o q b (s.set n x) :=
 ⟨by rw [yA a1];exact h.at_,pe h.ps a2,by rw [yA a3];exact h.bs,h.n1,h.n2⟩
theorem BF.setG (h:BF Fs ks o q b d a g s0 s L stp cD) (x:Int):BF Fs ks o q b d a g s0 (s.set g (.lst (cD.map PV.int++[.int x]))) L stp (cD++[x]) :=
 have j1:=h.i1;have j2:=h.i2;have j3:=h.i3;have j4:=h.i4;have j5:=h.i5
 ⟨nA h.H (by omega) (by omega) (by omega),by rw [yA (by omega)];exact h.D,by rw [yA (by omega)];exact h.A,by rw [ju (yv h.G)];simp,λm so x y z=>by rw [yA (by omega)];exact h.F m so x y z,h.i1,h.i2,h.i3,h.i4,h.i5⟩
theorem BF.setA (h:BF Fs ks o q b d a g s0 s L stp cD) (z:Str):BF Fs ks o q b d a g s0 (s.set a (.lst (stp.map PV.str++[.str z]))) L (stp++[z]) cD :=
 have j1:=h.i1;have j2:=h.i2;have j3:=h.i3;have j4:=h.i4;have j5:=h.i5
 ⟨nA h.H (by omega) (by omega) (by omega),by rw [yA (by omega)];exact h.D,by rw [ju (yv h.A)];simp,by rw [yA (by omega)];exact h.G,λm so x y z=>by rw [yA (by omega)];exact h.F m so x y z,h.i1,h.i2,h.i3,h.i4,h.i5⟩
theorem BF.setD (h:BF Fs ks o q b d a g s0 s L stp cD) (z:Str):BF Fs ks o q b d a g s0 (s.set d (.dic (L++[z]) (cg L++[.bl true]))) (L++[z]) stp cD :=
 have j1:=h.i1;have j2:=h.i2;have j3:=h.i3;have j4:=h.i4;have j5:=h.i5
 ⟨nA h.H (by omega) (by omega) (by omega),by rw [ju (yv h.D)];simp [cg],by rw [yA (by omega)];exact h.A,by rw [yA (by omega)];exact h.G,λm so x y z=>by rw [yA (by omega)];exact h.F m so x y z,h.i1,h.i2,h.i3,h.i4,h.i5⟩
def BF.lt (h:BF Fs ks o q b d a g s0 s L stp cD):o_ L s d:=.inl ⟨_,h.D,by simp⟩
noncomputable abbrev eF (o:Nat) (fv:PV) (bits:Int) (d a g:Nat) (z6 z7:Ao):zj:=[At o,some fv,some (.int bits),At d,At a,At g,z6,z7]
noncomputable abbrev cF:Aj:=(zZ (wI (mB (zu lM (zd (zc 6) zm))) (mB (iS "makes_later" oR (zc 0) (zd (ze zt (zc 1) (Ar 0)) (zd (zc 6) (zd (zc 3) zm))))))
  (zw (yT (yN yR (zc 4) (ze zt (zc 6) (Ar 1))))
  (iT (zc 3) (ze zt (zc 6) (Ar 1)) (mC (.bl true))))
  ye)
noncomputable abbrev bF:Aj:=(zw (zG 7 (zu wO (zd (zc 6) zm)))
  (zw (zZ (mB (ze jN (zc 7) (mC .non)))
  (yT (yN yR (zc 5) (iS "goal_of" qV (zc 0) (zd (zc 7) (zd (zc 3) zm)))))
  ye)
  cF))
variable {fv v:PV}{bits:Int}{z7:Ao}{X:Res Fl}
def Ij (hv:wO [v] s=.ok .non s) (h:cF (eF o fv bits d a g (some v) (some .non)) s=X):bF (eF o fv bits d a g (some v) z7) s=X :=
 zy (zN (zD (zM (zf rfl)) hv)) (zy (yu (zW (zo (zf rfl) rfl (show jN .non .non s=.ok (.bl false) s from rfl)))) h)
theorem Ik (P:aP Fs) (B:BF Fs ks o q b d a g s0 s L stp cD) {G:FD}(hG:G∈Fs) {as:An}{nk:Ad}(ha:∀x∈as,cm nk x) (hl:G.ps.length=as.length) (hg:cD.length<=1000) (hv:wO [v] s=.ok (.tup [.str G.nz,.tup as]) s) :
  ∃s',BF Fs ks o q b d a g s0 s' L stp (cD++[gl Fs ks L G.nz as])/\∀X,cF (eF o fv bits d a g (some v) (some (.tup [.str G.nz,.tup as]))) s'=X->bF (eF o fv bits d a g (some v) z7) s=X:=by
 have E:=Uz P B.H hG ha hl B.lt
 rw [<-uM P hG] at E
 have B1:=B.old (yb s [SO.lst ((as.map (aJ L)).map PV.bl)])
 have AP:=kW (y:=.int (gl Fs ks L G.nz as)) B1.G (by simp;omega)
 exact ⟨_,B1.setG _,λX h=>zy (zN (zD (zM (zf rfl)) hv)) (zy (yJ (zW (zo (zf rfl) rfl (show jN (.tup [.str G.nz,.tup as]) .non s=.ok (.bl true) s from rfl))) (wW (wz (zf rfl) B.G (BI (zf rfl) B.H.at_ (by decide +kernel) (show qV "Holding" = some m_Holding_goal_of from zF rfl) (zX (zf rfl) (zf rfl)) E) AP))) h)⟩
end
section
variable {Fs:List FD}{ks:Ag}{o q b d a g:Nat}{s0 s s1:ae}{L stp:Ad}{cD:List Int}{fv v:PV}{bits:Int}{z6 z7:Ao}{hs:List (Str×Nat)}{nk:Ad}{z nz:Str}
def Il (h:nR v):cF (eF o fv bits d a g (some v) z7) s=.ok (.nx (eF o fv bits d a g (some v) z7)) s:=yu (iV (zW (zD (zM (zf rfl)) (Uh h s))))
theorem Im {r:An}{c:Bool}(B:BF Fs ks o q b d a g s0 s L stp cD) (h:cJ hs nk z v) (hm:m_Holding_makes_later [.ref o,.str nz,v,.ref d] s=.ok (.bl c) s1) (H1:dB Fs ks o q b s1) (br:bx q s s1) (hz:z∉L) (l1:L.length<=1000) (l2:stp.length<=1000) :
  ∃s2,cF (eF o (.tup (.str nz::r)) bits d a g (some v) z7) s=.ok (.nx (eF o (.tup (.str nz::r)) bits d a g (some v) z7)) s2/\BF Fs ks o q b d a g s0 s2 (if c=true then L++[z] else L) (if c=true then stp++[z] else stp) cD:=by
 have B1:=B.bar br H1
 have T:(wI (mB (zu lM (zd (zc 6) zm))) (mB (iS "makes_later" oR (zc 0) (zd (ze zt (zc 1) (Ar 0)) (zd (zc 6) (zd (zc 3) zm)))))) (eF o (.tup (.str nz::r)) bits d a g (some v) z7) s=.ok c s1 :=
  g9 (zW (zD (zM (zf rfl)) (HK h s))) (zW (BI (zf rfl) B.H.at_ (by decide +kernel) (show oR "Holding" = some m_Holding_makes_later from zF rfl) (yL (zo (zf rfl) rfl yK) (zf rfl) (zf rfl)) hm))
 cases c with
 | false=>exact ⟨s1,yu T,B1⟩
 | true =>
  have A:=kW (y:=.str z) B1.A (by simp;omega)
  have B2:=B1.setA z
  have Pt:=uk (fo:=zc 3) (fi:=(ze zt (zc 6) (Ar 1))) (fv:=mC (.bl true)) (e:=eF o (.tup (.str nz::r)) bits d a g (some v) z7) (s:=s1.set a (.lst (stp.map PV.str++[.str z]))) rfl (zf rfl) (zo (zf rfl) rfl (BA h _)) B2.D l1
  rw [BH hz] at Pt
  exact ⟨_,yJ T (zy (wW (wz (zf rfl) B1.A (zo (zf rfl) rfl (BA h _)) A)) Pt),B2.setD z⟩
def Io {zz op:Str} {as:An}:wO [.tup [.str "let", .str zz,.str op,.tup as]] s=.ok .non s:=yf rfl (zy (yu (q0 rfl (dA n1 _))) (zy (yu (q0 rfl (dA n2 _))) (yh rfl)))
def Ip {zz f:Str} {as:An}:wO [.tup [.str "call", .str zz,.str f,.tup as]] s=.ok (.tup [.str f,.tup as]) s:=yf rfl (jf (yJ (q0 rfl (eK _)) (yh (ya (zX (zo (zf rfl) rfl jI) (zo (zf rfl) rfl wC)) (by simp)))))
def Iq {f:Str} {as:An}:wO [.tup [.str "go", .str f,.tup as]] s=.ok (.tup [.str f,.tup as]) s:=yf rfl (zy (yu (q0 rfl (dA n7 _))) (jf (yJ (q0 rfl (eK _)) (yh (ya (zX (zo (zf rfl) rfl yZ) (zo (zf rfl) rfl jI)) (by simp))))))
def uN {w:Str} {r:An} (h1:w ≠ "call") (h2:w ≠ "go"):wO [.tup (.str w::r)] s=.ok .non s:=yf rfl (zy (yu (q0 rfl (dA h1 _))) (zy (yu (q0 rfl (dA h2 _))) (yh rfl)))
end
theorem UC {Fs:List FD}(P:aP Fs) {ks:Ag}{o q b d a g:Nat}{s0:ae}{bits:Int}{nz:Str}{r:An}{nk:Ad}{ls:An}{zs:Ad}(h:cb (Fs.map FD.h) nk ls zs):∀{s:ae}{L stp:Ad}{cD:List Int}{z6 z7:Ao},BF Fs ks o q b d a g s0 s L stp cD->(∀z∈L,z∈nk)->(nk++zs).Nodup->L.length+ls.length<=900->stp.length+ls.length<=900->cD.length+ls.length<=900 ->
  ∃s' L' y6 y7,forL (gN 6) bF ls (eF o (.tup (.str nz::r)) bits d a g z6 z7) s=.ok (.nx (eF o (.tup (.str nz::r)) bits d a g y6 y7)) s'/\BF Fs ks o q b d a g s0 s' L' (stp++(wk Fs ks nz L (ls.map li)).1) (cD++(wk Fs ks nz L (ls.map li)).2):=by
 induction h with
 | nil nk=>intro s L stp cD z6 z7 B _ _ _ _ _;exact ⟨s,L,z6,z7,rfl,by simpa [wk] using B⟩
 | stp nk z v ls zs hv cq ih =>
  intro s L stp cD z6 z7 B hL nd l1 l2 l3
  simp only [jt] at l1 l2 l3
  have fX:(nk++[z]++zs).Nodup:=by simpa using nd
  have zk:z∉nk:=λhm=>(List.nodup_append.mp nd).2.2 z hm z (yO ..) rfl
  have hz:z∉L:=λhm=>zk (hL z hm)
  have h1:∀y∈L,y∈nk++[z]:=λy hy=>wF _ (hL y hy)
  have h2:∀y∈L++[z],y∈nk++[z]:=λy hy=>by
   rcases jG.mp hy with k|k
   ·exact h1 y k
   ·exact jm _ k
  cases hv with
  | let_ op n as ho ha cN =>
   have al:as.length<=1000:=by have:=Bp _ ho;simp at this;omega
   obtain ⟨s1,hm,H1,br⟩:=UB (nz:=nz) B.H (cJ.let_ (hs:=Fs.map FD.h) op n as ho ha cN) cN al B.lt
   obtain ⟨s2,E,B2⟩:=Im (r:=r) (bits:=bits) (z7:=some .non) B (cJ.let_ (hs:=Fs.map FD.h) op n as ho ha cN) hm H1 br hz (by omega) (by omega)
   have E0:=Ij (z7:=z7) Io E
   rw [yo,ig]
   unfold wk
   cases hc:(as.any (aJ L)||bj (pk nz z) ks) with
   | true =>
    rw [hc] at B2
    simp only [zF] at B2
    obtain ⟨s',L',y6,y7,E',B'⟩:=ih (z6:=some (.tup [.str "let", .str z,.str op,.tup as])) (z7:=some .non) B2 h2 fX (by simp;omega) (by simp;omega) (by omega)
    refine ⟨s',L',y6,y7,?_,by simpa using B'⟩
    unfold forL
    show (bF (eF o (.tup (.str nz::r)) bits d a g (some _) z7) s).bind _=_
    rw [E0,zJ]
    exact E'
   | false =>
    rw [hc] at B2
    simp only [Bool.false_eq_true,if_false] at B2
    obtain ⟨s',L',y6,y7,E',B'⟩:=ih (z6:=some (.tup [.str "let", .str z,.str op,.tup as])) (z7:=some .non) B2 h1 fX (by omega) (by omega) (by omega)
    refine ⟨s',L',y6,y7,?_,by simpa using B'⟩
    unfold forL
    show (bF (eF o (.tup (.str nz::r)) bits d a g (some _) z7) s).bind _=_
    rw [E0,zJ]
    exact E'
  | call f as hf cN =>
   obtain ⟨G,hG,rfl,hl⟩:=rF hf
   obtain ⟨s1,B1,K⟩:=Ik (fv:=.tup (.str nz::r)) (bits:=bits) (z7:=z7) P B hG cN hl (by omega) (Ip (zz:=z))
   obtain ⟨s2,E,B2⟩:=Im (r:=r) (bits:=bits) (z7:=some (.tup [.str G.nz,.tup as])) B1 (cJ.call (hs:=Fs.map FD.h) G.nz as hf cN) (UA (q:=q) (b:=b)) B1.H (bx.refl _ _) hz (by omega) (by omega)
   have E0:=K _ E
   simp only [zF] at B2
   obtain ⟨s',L',y6,y7,E',B'⟩:=ih (z6:=some (.tup [.str "call", .str z,.str G.nz,.tup as])) (z7:=some (.tup [.str G.nz,.tup as])) B2 h2 fX (by simp;omega) (by simp;omega) (by simp;omega)
   rw [yo,ik]
   unfold wk
   refine ⟨s',L',y6,y7,?_,by simpa using B'⟩
   unfold forL
   show (bF (eF o (.tup (.str nz::r)) bits d a g (some _) z7) s).bind _=_
   rw [E0,zJ]
   exact E'
 | fin nk e ls zs he cq ih =>
  intro s L stp cD z6 z7 B hL nd l1 l2 l3
  simp only [jt] at l1 l2 l3
  have no:∀{w:Str} {rr:An},e=.tup (.str w::rr)->w ≠ "call" -> w ≠ "go" -> li e=.oth->∃s' L' y6 y7,forL (gN 6) bF (e::ls) (eF o (.tup (.str nz::r)) bits d a g z6 z7) s=.ok (.nx (eF o (.tup (.str nz::r)) bits d a g y6 y7)) s'/\BF Fs ks o q b d a g s0 s' L' (stp++(wk Fs ks nz L ((e::ls).map li)).1) (cD++(wk Fs ks nz L ((e::ls).map li)).2):=λUD UE UG rG=>by
   have E0:=Ij (fv:=.tup (.str nz::r)) (bits:=bits) (z7:=z7) (s:=s) (o:=o) (d:=d) (a:=a) (g:=g) (v:=e) (by rw [UD];exact uN UE UG) (Il (zev he))
   obtain ⟨s',L',y6,y7,E',B'⟩:=ih (z6:=some e) (z7:=some .non) B hL nd (by omega) (by omega) (by omega)
   rw [yo,rG]
   unfold wk
   refine ⟨s',L',y6,y7,?_,B'⟩
   unfold forL
   show (bF (eF o (.tup (.str nz::r)) bits d a g (some e) z7) s).bind _=_
   rw [E0,zJ]
   exact E'
  cases he with
  | give x hx=>exact no rfl n3 n4 (by cases hx<;>rfl)
  | fail w=>exact no rfl n5 n6 rfl
  | if_ x v1 v2 hx=>exact no rfl n8 n9 (by cases hx<;>rfl)
  | go f as hf cN =>
   obtain ⟨G,hG,rfl,hl⟩:=rF hf
   obtain ⟨s1,B1,K⟩:=Ik (fv:=.tup (.str nz::r)) (bits:=bits) (z7:=z7) P B hG cN hl (by omega) Iq
   have E0:=K _ (Il (zev (dY.go (hs:=Fs.map FD.h) G.nz as hf cN)))
   obtain ⟨s',L',y6,y7,E',B'⟩:=ih (z6:=some (.tup [.str "go", .str G.nz,.tup as])) (z7:=some (.tup [.str G.nz,.tup as])) B1 hL nd (by omega) (by omega) (by simp;omega)
   rw [yo,iq]
   unfold wk
   refine ⟨s',L',y6,y7,?_,by simpa using B'⟩
   unfold forL
   show (bF (eF o (.tup (.str nz::r)) bits d a g (some _) z7) s).bind _=_
   rw [E0,zJ]
   exact E'
noncomputable abbrev bt (Fs:List FD) (ks:Ag) (F:FD) (bits:Int):List Str×List Int:=wk Fs ks F.nz (picks (bitAt bits) 0 F.ps) (F.ls.map li)
noncomputable def dn (Fs:List FD) (ks:Ag) (F:FD) (bits:Int):PV:=.tup [.str F.nz,.int bits,.tup ((bt Fs ks F bits).1.map PV.str),.tup ((bt Fs ks F bits).2.map PV.int)]
def Ir {p:Nat->Bool}{zs:Ad}{i:Nat}:(picks p i zs).length<=zs.length:=nr.length_le
theorem UH {Fs:List FD}(P:aP Fs) {ks:Ag}{o q b:Nat}{s:ae}(H:dB Fs ks o q b s) {F:FD}(hF:F∈Fs) (bits:Int) (hb:0<=bits):∃s1,m_Holding_best_form [.ref o,F.v,.int bits] s=.ok (dn Fs ks F bits) s1/\dB Fs ks o q b s1/\bx q s s1/\s.length<=s1.length:=by
 have ok:=P.fn F hF
 obtain ⟨dd,oX,B⟩:=ok.bk
 have np:=ok.np
 have nl:=ok.nl
 let L0:=picks (bitAt bits) 0 F.ps
 have l0:L0.length<=F.ps.length:=Ir
 have sub:∀z∈L0,z∈F.ps:=λz hz=>nr.subset hz
 have UI:L0.Nodup:=((List.nodup_append.mp ok.nd).1).sublist nr
 let t1:=s++[SO.lst (L0.map PV.str)]
 have E1:oP [F.v,.int bits] s=.ok (.tup (L0.map PV.str)) t1:=HX (f:=.str F.nz) (r:=[F.bv]) bits hb (by omega) s
 obtain ⟨t2,E2,hd2,o2⟩:=HW L0 UI (by omega) t1
 let t3:=t2++[SO.lst []]
 let t4:=t3++[SO.lst []]
 have o4:Old s t4:=(yb _ _).trans (o2.trans ((yb _ _).trans (yb _ _)))
 have ol:=yv H.at_
 have ql:=H.ps.lt
 have bl:=yv H.bs
 have l1:t1.length=s.length+1:=by simp [t1]
 have l2:t1.length<t2.length:=yv hd2
 have l3:t3.length=t2.length+1:=by simp [t3]
 have UJ:BF Fs ks o q b t1.length t2.length t3.length t4 t4 L0 [] []:=⟨H.old o4,yb _ _ _ _ (yb _ _ _ _ hd2),yb _ _ _ _ (yt _ _),yt _ _,λ_ _ _ _ e=>e,by omega,by omega,by omega,by omega,by omega⟩
 obtain ⟨s',L',y6,y7,E,B'⟩:=UC P (bits:=bits) (nz:=F.nz) (r:=[.tup (F.ps.map PV.str),F.bv]) ok.ln (z6:=none) (z7:=none) UJ sub ok.nd (by omega) (by simp;omega) (by simp;omega)
 have LN:=By (st:=t4) 12 B (by omega) (by omega)
 have FO:(yU (yQ (zu (iX 12) (zd (ze zt (zc 1) (Ar 2)) zm))) (gN 6) bF) (eF o F.v bits t1.length t2.length t3.length none none) t4=.ok (.nx (eF o F.v bits t1.length t2.length t3.length y6 y7)) s':=by
  rw [gX,j7,zD (zM (zo (zf rfl) rfl jI)) LN,zJ]
  show (Res.ok (Sq.im F.ls) t4).bind _=_
  rw [zJ]
  exact E
 have B1:=B'
 rw [List.nil_append,List.nil_append] at B1
 refine ⟨s',yf rfl (zy (zN (zD (zM (zD (zX (zf rfl) (zf rfl)) E1)) E2)) (zy (zN (jz jO (by simp))) (zy (zN (jz jO (by simp))) (zy FO (yh (ya (jE (zo (zf rfl) rfl yK) (zf rfl) (zD (zM (zf rfl)) (by rw [wM,yD B1.A])) (zD (zM (zf rfl)) (by rw [wM,yD B1.G]))) (by simp))))))),B1.H,λm so hm e=>B1.F m so hm (by have:=yv e;omega) (o4 _ _ e),?_⟩
 have:=yv B1.G
 omega
noncomputable def aimL:Li->Option (Str×List PV)
 | .call _ f as=>some (f,as)
 | .go f as=>some (f,as)
 | _=>none
noncomputable abbrev a4 (ls:An):List (Str×List PV):=(ls.map li).filterMap aimL
noncomputable def f_:Option (Str×List PV)->PV
 | some (f,as)=>.tup [.str f,.tup as]
 | none=>.non
def rH {hs:List (Str×Nat)}{nk:Ad}{ls:An}{zs:Ad}(h:cb hs nk ls zs):∀l∈ls,(∃k z,cJ hs k z l)\/∃k,dY hs k l:=by
 induction h with
 | nil=>intro l hl;cases hl
 | stp nk z v ls zs hv _ ih =>
  intro l hl
  rcases yz.mp hl with e|e
  ·rw [e];exact .inl ⟨nk,z,hv⟩
  ·exact ih l e
 | fin nk e ls zs he _ ih =>
  intro l hl
  rcases yz.mp hl with k|k
  ·rw [k];exact .inr ⟨nk,he⟩
  ·exact ih l k
def Iu {hs:List (Str×Nat)}{l:PV}(h:(∃k z,cJ hs k z l)\/∃k,dY hs k l) (s:ae):wO [l] s=.ok (f_ (aimL (li l))) s:=by
 rcases h with ⟨k,z,h⟩|⟨k,h⟩
 ·cases h with
  | let_ o n as=>rw [ig];exact Io
  | call f as=>rw [ik];exact Ip
 ·cases h with
  | give x hx=>rw [show li (.tup [.str "give", x])=.oth by cases hx<;>rfl];exact uN n3 n4
  | fail w=>exact uN n5 n6
  | go f as=>rw [iq];exact Iq
  | if_ x v1 v2 hx=>rw [show li (.tup [.str "if", x,v1,v2])=.oth by cases hx<;>rfl];exact uN n8 n9
def iu (x:PV) (s:ae):jN x .non s=.ok (.bl (!dj x)) s:=by cases x<;>rfl
noncomputable abbrev fj (ls:An):An:=(a4 ls).map λp=>f_ (some p)
def UK (ls:An):((ls.map λl=>f_ (aimL (li l))).flatMap λx=>if (!dj x)=true then [x] else [])=fj ls:=by
 induction ls with
 | nil=>rfl
 | cons w ws ih =>
  rw [yo,rR,ih]
  show _=(List.filterMap aimL (li w::ws.map li)).map _
  rw [List.filterMap_cons]
  cases aimL (li w) with
  | none=>rfl
  | some p=>rfl
theorem UL {hs:List (Str×Nat)}{bv:PV}{ls:An}{dd:Nat}{nk zs:Ad}(B:Bk bv ls dd) (hd:dd<12) (hl:ls.length<=1000) (hn:cb hs nk ls zs) (st:ae):∃s1,Bb [bv] st=.ok (.tup (fj ls)) s1/\Old st s1:=by
 have E:=By (st:=st) 12 B hd (by omega)
 have al:=rH hn
 let s1:=st++[SO.lst (ls.map λl=>f_ (aimL (li l)))]
 have C:(jD (yQ (zu (iX 12) (zd (zc 0) zm))) (zu wO (zd (zc 0) zm))) [some bv,none] st=.ok (.ref st.length) s1:=by
  rw [lH,j7,zD (zM (zf rfl)) E]
  simp only [zJ,gU]
  rw [lI,zF (by simp [lim];omega)]
  exact oF _ (λw hw=>zD (zM (zf rfl)) (Iu (al w hw) st)) []
 let s2:=s1++[SO.lst (fj ls)]
 have C2:(lJ (yQ (zc 1)) (mB (ze jN (zc 0) (mC .non))) (zc 0)) [some bv,At st.length] s1=.ok (.ref s1.length) s2:=by
  rw [FC,j7,zf rfl]
  simp only [zJ,gU]
  rw [yD (yt _ _)]
  have:=Bl (ft:=(mB (ze jN (zc 0) (mC .non)))) (fe:=zc 0) (env:=[some bv,At st.length]) (st:=s1) (n:=st.length) (p:=λx=>!dj x) (f:=λx=>x) (ls.map λl=>f_ (aimL (li l))) (yt _ _) (λx hx=>zW (zo (zf rfl) rfl (iu x _))) (λx hx _=>zf rfl) (ls.map λl=>f_ (aimL (li l))).length 0 (lim+1) [] (by omega) (by simp [lim];omega)
  rw [List.drop_zero,UK] at this
  exact this
 exact ⟨s2,yf rfl (zy (zN C) (yh (zD (zM C2) (by rw [wM,yD (yt _ _)])))),(yb _ _).trans (yb _ _)⟩
noncomputable abbrev cu (p:Str×Int):List Key:=[.inr p.1,.inl p.2]
noncomputable abbrev cO (p:Str×Int):PV:=.tup [.str p.1,.int p.2]
noncomputable abbrev cC (Fs:List FD) (ks:Ag) (F:FD) (bits:Int):List (Str×Int):=((a4 F.ls).map (·.1)).zip (bt Fs ks F bits).2
theorem Iv {env:zj}{st:ae}:∀(as:List (Str×List PV)) (gs:List Int) (ys:An),wU (zE (zd (ze zt (zc 0) (Ar 0)) (zd (zc 1) zm))) env (wK (as.map λp=>f_ (some p)) (gs.map PV.int)) ys st=.ok (.ref st.length) (st++[.lst (ys++((as.map (·.1)).zip gs).map cO)])
 | [],gs,ys=>by cases gs<;>simp [wK,wU]
 | a::as,[],ys=>by simp [wK,wU]
 | (f,as0)::as,g::gs,ys=>by
  have ih:=Iv (env:=env) (st:=st) as gs (ys++[cO (f,g)])
  rw [yo,yo]
  show wU _ env (.tup [.tup [.str f,.tup as0],.int g]::wK _ _) ys st=_
  have E:(zE (zd (ze zt (zc 0) (Ar 0)) (zd (zc 1) zm))) (some (.tup [.str f,.tup as0])::some (.int g)::env) st=.ok (cO (f,g)) st:=ya (zX (zo (zf rfl) rfl yK) (zf rfl)) (by simp)
  unfold wU
  simp only [pairOf]
  rw [E,mG,zJ,ih]
  simp
theorem UM {Fs:List FD}(P:aP Fs) {F:FD}(hF:F∈Fs) (gs:List Int) (st:ae):∃r s1,qX [F.v,.tup (gs.map PV.int)] st=.ok (.ref r) s1/\s1[r]?=some (.lst ((((a4 F.ls).map (·.1)).zip gs).map cO))/\(∀(m:Nat) so,st[m]?=some so->m<r)/\Old st s1:=by
 have ok:=P.fn F hF
 obtain ⟨dd,oX,B⟩:=ok.bk
 have nl:=ok.nl
 obtain ⟨s1,E,o⟩:=UL B (by omega) (by omega) ok.ln st
 have C:=Iv (env:=[some F.v,some (.tup (gs.map PV.int))]) (st:=s1) (a4 F.ls) gs []
 rw [List.nil_append] at C
 have zl:(wK (fj F.ls) (gs.map PV.int)).length<=lim:=by
  have h1:∀(xs ys:An),(wK xs ys).length<=xs.length:=λxs ys=>by simp [wK];omega
  have h2:=h1 (fj F.ls) (gs.map PV.int)
  have h3:(fj F.ls).length<=F.ls.length:=by
   rw [yM]
   exact jr (List.length_filterMap_le _ _) (by simp)
  have:lim=1000000:=rfl
  omega
 refine ⟨s1.length,_,yf rfl (yh ?_),yt _ _,λm so e=>yv (o _ _ e),o.trans (yb _ _)⟩
 rw [QY]
 show (Res.bind (Res.bind _ _) _)=_
 rw [zX (zD (zM (zo (zf rfl) rfl jI)) E) (zf rfl),zJ]
 show (Res.bind (Res.ok (Sq.im (wK (fj F.ls) (gs.map PV.int))) s1) _)=_
 rw [zJ]
 show (if _ then _ else _)=_
 rw [zF zl]
 exact C
abbrev Pr:=Str×Int
noncomputable def bq (met:List Pr) (p:Pr):List Pr:=if p∈met then met else met++[p]
noncomputable def a8 (Fs:List FD) (ks:Ag) (p:Pr):PV:=match Fs.find? λF=>decide (F.nz=p.1) with
 | some F=>dn Fs ks F p.2
 | none=>.non
noncomputable def bI (Fs:List FD) (ks:Ag) (p:Pr):List Pr:=match Fs.find? λF=>decide (F.nz=p.1) with
 | some F=>cC Fs ks F p.2
 | none=>[]
def Gd (Fs:List FD) (p:Pr):Prop:=∃F∈Fs,F.nz=p.1/\0<=p.2/\p.2<2 ^ F.ps.length
inductive fq (Fs:List FD) (ks:Ag):Nat->List Pr->List Pr->Prop
 | done (met:List Pr):fq Fs ks met.length met met
 | step (i:Nat) (met fin:List Pr) (p:Pr):met[i]?=some p->fq Fs ks (i+1) ((bI Fs ks p).foldl bq met) fin->fq Fs ks i met fin
def UN {met:List Pr}{p:Pr}(h:met.Nodup):(bq met p).Nodup:=by
 unfold bq
 by_cases hp:p∈met
 ·rw [zF hp];exact h
 ·rw [zR hp,List.nodup_append]
  exact ⟨h,by simp,λa ha b hb e=>hp (by rw [jP.mp hb] at e;exact e▸ha)⟩
def UO {met:List Pr}{p x:Pr}(h:x∈bq met p):x∈met\/x=p:=by
 unfold bq at h
 split at h
 ·exact .inl h
 ·rcases jG.mp h with q|q
  ·exact .inl q
  ·exact .inr (jP.mp q)
def UP {met:List Pr}{p:Pr}:∃t,bq met p=met++t:=by
 unfold bq
 split
 ·exact ⟨[],by simp⟩
 ·exact ⟨_,rfl⟩
def Iw {l:List Pr}:∀{met:List Pr},met.Nodup->(l.foldl bq met).Nodup:=by
 induction l with
 | nil=>intro met h;exact h
 | cons p l ih=>intro met h;exact ih (UN h)
def Iy {l:List Pr}:∀{met:List Pr}{x:Pr},x∈l.foldl bq met->x∈met\/x∈l:=by
 induction l with
 | nil=>intro met x h;exact .inl h
 | cons p l ih =>
  intro met x h
  rcases ih h with q|q
  ·rcases UO q with k|k
   ·exact .inl k
   ·rw [k];exact .inr (yO ..)
  ·exact .inr (yX _ q)
def uO {l:List Pr}:∀{met:List Pr},∃t,l.foldl bq met=met++t:=by
 induction l with
 | nil=>intro met;exact ⟨[],by simp⟩
 | cons p l ih =>
  intro met
  obtain ⟨t,e⟩:=UP (met:=met) (p:=p)
  obtain ⟨t',e'⟩:=ih (met:=bq met p)
  exact ⟨t++t',by rw [List.foldl_cons,e',e,wG]⟩
theorem BK:∀{a b:List Bool},a.length=b.length->(cW a b).length=b.length
 | [],[],_=>rfl
 | [],_::_,h=>by simp at h
 | _::_,[],h=>by simp at h
 | x::a,y::b,h=>by simp [cW,BK (a:=a) (b:=b) (by simpa using h)]
theorem Iz {Fs:List FD}(P:aP Fs) {ks:Ag}{L:Ad}{f:Str}{as:An}(h:(f,as.length)∈Fs.map FD.h):Gd Fs (f,gl Fs ks L f as):=by
 obtain ⟨F,hF,rfl,hl⟩:=rF h
 rw [uM P hF]
 refine ⟨F,hF,rfl,uD _,?_⟩
 have:=Bx (dm ks L F as)
 unfold dm at this ⊢
 rw [BK (by simp;omega),yM] at this
 exact this
def IA {Fs:List FD}(P:aP Fs) {ks:Ag}{nz:Str}{nk:Ad}{ls:An}{zs:Ad}(h:cb (Fs.map FD.h) nk ls zs):∀(L:Ad),(wk Fs ks nz L (ls.map li)).2.length=(a4 ls).length/\∀p∈((a4 ls).map (·.1)).zip (wk Fs ks nz L (ls.map li)).2,Gd Fs p:=by
 induction h with
 | nil=>intro L;exact ⟨rfl,λp h=>by simp [wk] at h⟩
 | stp nk z v ls zs hv _ ih =>
  intro L
  cases hv with
  | let_ o n as =>
   show (wk Fs ks nz L (li _::ls.map li)).2.length=(List.filterMap aimL (li _::ls.map li)).length/\∀p∈((List.filterMap aimL (li _::ls.map li)).map (·.1)).zip (wk Fs ks nz L (li _::ls.map li)).2,Gd Fs p
   rw [ig]
   unfold wk
   rw [show List.filterMap aimL (Li.let_ z as::ls.map li)=a4 ls from rfl]
   split
   ·exact ih _
   ·exact ih _
  | call f as hf cN =>
   show (wk Fs ks nz L (li _::ls.map li)).2.length=(List.filterMap aimL (li _::ls.map li)).length/\∀p∈((List.filterMap aimL (li _::ls.map li)).map (·.1)).zip (wk Fs ks nz L (li _::ls.map li)).2,Gd Fs p
   rw [ik]
   unfold wk
   rw [show List.filterMap aimL (Li.call z f as::ls.map li)=(f,as)::a4 ls from rfl]
   obtain ⟨h1,h2⟩:=ih (L++[z])
   refine ⟨by simpa using h1,λp hp=>?_⟩
   rw [yo,List.zip_cons_cons] at hp
   rcases yz.mp hp with e|e
   ·rw [e];exact Iz P hf
   ·exact h2 p e
 | fin nk e ls zs he _ ih =>
  intro L
  have no:li e=.oth->(wk Fs ks nz L ((e::ls).map li)).2.length=(a4 (e::ls)).length/\∀p∈((a4 (e::ls)).map (·.1)).zip (wk Fs ks nz L ((e::ls).map li)).2,Gd Fs p:=λrG=>by
   show (wk Fs ks nz L (li _::ls.map li)).2.length=(List.filterMap aimL (li _::ls.map li)).length/\∀p∈((List.filterMap aimL (li _::ls.map li)).map (·.1)).zip (wk Fs ks nz L (li _::ls.map li)).2,Gd Fs p
   rw [rG]
   exact ih L
  cases he with
  | give x hx=>exact no (by cases hx<;>rfl)
  | fail w=>exact no rfl
  | if_ x v1 v2 hx=>exact no (by cases hx<;>rfl)
  | go f as hf cN =>
   show (wk Fs ks nz L (li _::ls.map li)).2.length=(List.filterMap aimL (li _::ls.map li)).length/\∀p∈((List.filterMap aimL (li _::ls.map li)).map (·.1)).zip (wk Fs ks nz L (li _::ls.map li)).2,Gd Fs p
   rw [iq]
   unfold wk
   rw [show List.filterMap aimL (Li.go f as::ls.map li)=(f,as)::a4 ls from rfl]
   obtain ⟨h1,h2⟩:=ih L
   refine ⟨by simpa using h1,λp hp=>?_⟩
   rw [yo,List.zip_cons_cons] at hp
   rcases yz.mp hp with e|e
   ·rw [e];exact Iz P hf
   ·exact h2 p e
def IB {Fs:List FD}(P:aP Fs) {ks:Ag}{p:Pr}:∀x∈bI Fs ks p,Gd Fs x:=by
 intro x hx
 unfold bI at hx
 cases h:Fs.find? λF=>decide (F.nz=p.1) with
 | none=>rw [h] at hx;cases hx
 | some F =>
  rw [h] at hx
  exact (IA P (P.fn F (List.mem_of_find?_eq_some h)).ln _).2 x hx
noncomputable def rJ (Fs:List FD):List Pr:=Fs.flatMap λF=>(List.range (2 ^ F.ps.length)).map λ(j:Nat)=>(F.nz,(j:Int))
def UQ {Fs:List FD}{p:Pr}(h:Gd Fs p):p∈rJ Fs:=by
 obtain ⟨F,hF,e,h0,h1⟩:=h
 obtain ⟨f,b⟩:=p
 simp only at e h0 h1
 subst e
 refine List.mem_flatMap.mpr ⟨F,hF,jd.mpr ⟨b.toNat,ki.mpr ?_,?_⟩⟩
 ·have:((b.toNat:Nat):Int)<((2 ^ F.ps.length:Nat):Int):=by rw [Int.toNat_of_nonneg h0];simpa using h1
  exact_mod_cast this
 ·rw [Int.toNat_of_nonneg h0]
theorem UR {Fs:List FD}(P:aP Fs):(rJ Fs).length<=800:=by
 have key:∀(m:Nat) (l:List FD),(∀F∈l,F.ps.length<=m)->(l.flatMap λF=>(List.range (2 ^ F.ps.length)).map λ(j:Nat)=>(F.nz,(j:Int))).length<=l.length*2 ^ m:=λm l=>by
  induction l with
  | nil=>intro _;simp
  | cons F l ih =>
   intro h
   have h1:=h F (yO ..)
   have h2:=ih λG hG=>h G (yX _ hG)
   have h3:2 ^ F.ps.length<=2 ^ m:=Nat.pow_le_pow_right (by decide) h1
   rw [rR,iA,yM,List.length_range,jt,Nat.add_mul]
   omega
 have few:=P.few
 unfold rJ
 rcases P.sz with h|h
 ·have:=key 6 Fs λF hF=>(P.fn F hF).np
  omega
 ·have:=key 2 Fs h
  omega
theorem IC:∀{l u:List Pr},l.Nodup->(∀x∈l,x∈u)->l.length<=u.length
 | [],u,_,_=>js _
 | x::l,u,nd,h=>by
  rw [jB] at nd
  have hx:=h x (yO ..)
  have ih:=IC (l:=l) (u:=u.erase x) nd.2 λy hy=>(List.mem_erase_of_ne (show y≠x from λe=>nd.1 (by rw [<-e];exact hy))).mpr (h y (yX _ hy))
  rw [List.length_erase_of_mem hx] at ih
  have:0<u.length:=List.length_pos_of_mem hx
  simp only [jt]
  omega
def BL {Fs:List FD}(P:aP Fs) {met:List Pr}(nd:met.Nodup) (g:∀x∈met,Gd Fs x):met.length<=800:=jr (IC nd λx hx=>UQ (g x hx)) (UR P)
def US {p p':Pr}(h:cu p=cu p'):p=p':=by
 obtain ⟨a,b⟩:=p
 obtain ⟨a',b'⟩:=p'
 simp only [cu,List.cons.injEq,Sum.inr.injEq,Sum.inl.injEq,and_true] at h
 rw [h.1,h.2]
def BM (p:Pr) (met:List Pr):bj (cu p) (met.map cu)=decide (p∈met):=by
 rw [Bool.eq_iff_iff,tX,iE,jd]
 exact ⟨λ⟨x,hx,e⟩=>US e▸hx,λh=>⟨p,h,rfl⟩⟩
structure BS (Fs:List FD) (ks:Ag) (f3 o q b m5 m6 m7:Nat) (st s:ae) (met:List Pr) (eL:An):Prop where
 Fd:s[f3]?=some (.dic (Fs.map (·.nz)) (Fs.map FD.v))
 H:dB Fs ks o q b s
 M:s[m5]?=some (.lst (met.map cO))
 K:IsT (met.map cu) s m6
 G:s[m7]?=some (.lst eL)
 F:∀(m:Nat) so,st[m]?=some so->s[m]?=some so
 j0:st.length<=f3
 j1:f3<o
 j2:o<q
 j3:q<b
 j4:b<m5
 j5:m5<m6
 j6:m6<m7
section
variable {Fs:List FD}{ks:Ag}{f3 o q b m5 m6 m7:Nat}{st s s':ae}{met:List Pr}{eL:An}
theorem BS.bar (h:BS Fs ks f3 o q b m5 m6 m7 st s met eL) (k:bx q s s') (H:dB Fs ks o q b s'):BS Fs ks f3 o q b m5 m6 m7 st s' met eL:=by
 obtain ⟨h1,h2,h3,h4,h5,h6,j0,j1,j2,j3,j4,j5,j6⟩:=h
 refine ⟨k _ _ (by omega) h1,H,k _ _ (by omega) h3,?_,k _ _ (by omega) h5,λm so e=>k m so (by have:=yv e;omega) (h6 m so e),j0,j1,j2,j3,j4,j5,j6⟩
 unfold IsT at h4 ⊢
 cases e:s[m6]? with
 | none=>rw [e] at h4;cases h4
 | some so=>rw [k m6 so (by omega) e];rw [e] at h4;exact h4
def BS.old (h:BS Fs ks f3 o q b m5 m6 m7 st s met eL) (k:Old s s'):BS Fs ks f3 o q b m5 m6 m7 st s' met eL:=h.bar k.bar (h.H.old k)
theorem BS.setK (h:BS Fs ks f3 o q b m5 m6 m7 st s met eL):BS Fs ks f3 o q b m5 m6 m7 st (s.set m6 (.dit (met.map cu) (cg (met.map cu)))) met eL:=by
 obtain ⟨h1,h2,h3,h4,h5,h6,j0,j1,j2,j3,j4,j5,j6⟩:=h
 exact ⟨by rw [yA (by omega)];exact h1,nA h2 (by omega) (by omega) (by omega),by rw [yA (by omega)];exact h3,lQ h4.lt,by rw [yA (by omega)];exact h5,λm so e=>by rw [yA (by have:=yv e;omega)];exact h6 m so e,j0,j1,j2,j3,j4,j5,j6⟩
theorem BS.add (h:BS Fs ks f3 o q b m5 m6 m7 st s met eL) (p:Pr):BS Fs ks f3 o q b m5 m6 m7 st ((s.set m6 (.dit ((met++[p]).map cu) (cg ((met++[p]).map cu)))).set m5 (.lst (met.map cO++[cO p]))) (met++[p]) eL:=by
 obtain ⟨h1,h2,h3,h4,h5,h6,j0,j1,j2,j3,j4,j5,j6⟩:=h
 have l6:=h4.lt
 refine ⟨by rw [yA (by omega),yA (by omega)];exact h1,nA (nA h2 (by omega) (by omega) (by omega)) (by omega) (by omega) (by omega),?_,pe (lQ l6) (by omega),by rw [yA (by omega),yA (by omega)];exact h5,λm so e=>by have:=yv e;rw [yA (by omega),yA (by omega)];exact h6 m so e,j0,j1,j2,j3,j4,j5,j6⟩
 rw [ju (by rw [List.length_set];exact yv h3),jA]
 rfl
theorem BS.setG (h:BS Fs ks f3 o q b m5 m6 m7 st s met eL) (v:PV):BS Fs ks f3 o q b m5 m6 m7 st (s.set m7 (.lst (eL++[v]))) met (eL++[v]):=by
 obtain ⟨h1,h2,h3,h4,h5,h6,j0,j1,j2,j3,j4,j5,j6⟩:=h
 exact ⟨by rw [yA (by omega)];exact h1,nA h2 (by omega) (by omega) (by omega),by rw [yA (by omega)];exact h3,pe h4 (by omega),ju (yv h5),λm so e=>by rw [yA (by have:=yv e;omega)];exact h6 m so e,j0,j1,j2,j3,j4,j5,j6⟩
noncomputable abbrev eW (fs:An) (bits:Int) (ws:PV) (f3 o m5 m6 m7:Nat) (z8 z9 z10 z11:Ao):zj:=[some (.tup fs),some (.int bits),some ws,At f3,At o,At m5,At m6,At m7,z8,z9,z10,z11]
noncomputable abbrev cB:Aj:=(zZ (mB (ze (cz (yS true) true) (zc 11) (zc 6)))
  (zw (mS (zc 6) (zc 11) (mC (.bl true)))
  (yT (yN yR (zc 5) (zc 11))))
  ye)
theorem UT {l:List Pr}:∀{met:List Pr},(l.foldl bq met).length<=met.length+l.length:=by
 induction l with
 | nil=>intro met;simp
 | cons p l ih =>
  intro met
  have h1:=ih (met:=bq met p)
  have h2:(bq met p).length<=met.length+1:=by unfold bq;split<;>simp
  rw [List.foldl_cons,jt]
  omega
theorem UU {fs:An}{bits:Int}{ws:PV}{z8 z9 z10 z11:Ao}{r:Nat}{nx:List Pr}(B:BS Fs ks f3 o q b m5 m6 m7 st s met eL) (hr:s[r]?=some (.lst (nx.map cO))) (rl:m7<r) (hl:met.length+nx.length<=90000) :
  ∃s' y,forR (gN 11) cB r (lim+1) 0 (eW fs bits ws f3 o m5 m6 m7 z8 z9 z10 z11) s=.ok (.nx (eW fs bits ws f3 o m5 m6 m7 z8 z9 z10 y)) s'/\BS Fs ks f3 o q b m5 m6 m7 st s' (nx.foldl bq met) eL:=by
 obtain ⟨e',s',F,⟨y,he⟩,B',_⟩:=uh (g:=gN 11) (body:=cB) (n:=r) (nx.map cO) (λi e s=>(∃y,e=eW fs bits ws f3 o m5 m6 m7 z8 z9 z10 y)/\BS Fs ks f3 o q b m5 m6 m7 st s ((nx.take i).foldl bq met) eL/\s[r]?=some (.lst (nx.map cO))) (λi e s h=>h.2.2) (λi x e s hx ⟨⟨y,he⟩,B,hr⟩=>by
  subst he
  rw [yI] at hx
  obtain ⟨p,hp,rfl⟩:=Option.map_eq_some_iff.mp hx
  have hi:i<nx.length:=(yl.mp hp).1
  have ml:((nx.take i).foldl bq met).length<=90000:=by have:=UT (l:=nx.take i) (met:=met);simp at this;omega
  have e1:(nx.take (i+1)).foldl bq met=bq ((nx.take i).foldl bq met) p:=by rw [kS hp,List.foldl_append];rfl
  rw [e1]
  generalize (nx.take i).foldl bq met=mt at B ml
  have j5:=B.j5
  have j6:=B.j6
  have R:=uI (old:=yS true) (neg:=true) (k:=cu p) B.K
  rw [BM] at R
  have B1:=B.setK
  refine ⟨eW fs bits ws f3 o m5 m6 m7 z8 z9 z10 (some (cO p)),?_⟩
  by_cases hm:p∈mt
  ·rw [jJ hm] at R
   refine ⟨eW fs bits ws f3 o m5 m6 m7 z8 z9 z10 (some (cO p)),_,rfl,yu (zW (zo (zf rfl) (zf rfl) R)),⟨_,rfl⟩,?_,by rw [yA (by omega)];exact hr⟩
   unfold bq
   rw [zF hm]
   exact B1
  ·rw [jC hm] at R
   have Pt:=uJ (fo:=zc 6) (fi:=zc 11) (fv:=mC (.bl true)) (e:=eW fs bits ws f3 o m5 m6 m7 z8 z9 z10 (some (cO p))) (k:=cu p) rfl (zf rfl) (zf rfl) B1.K (by simp;omega)
   have ek:cA (mt.map cu) (cu p)=(mt++[p]).map cu:=by
    unfold cA
    rw [BM,zR (by simpa using hm),jA]
    rfl
   rw [ek] at Pt
   have hM:((s.set m6 (.dit (mt.map cu) (cg (mt.map cu)))).set m6 (.dit ((mt++[p]).map cu) (cg ((mt++[p]).map cu))))[m5]?=some (.lst (mt.map cO)):=by rw [yA (by omega)];exact B1.M
   have A:=kW (y:=cO p) hM (by simp;omega)
   refine ⟨eW fs bits ws f3 o m5 m6 m7 z8 z9 z10 (some (cO p)),_,rfl,yJ (zW (zo (zf rfl) (zf rfl) R)) (zy Pt (wW (wz (zf rfl) hM (zf rfl) A))),⟨_,rfl⟩,?_,by rw [yA (by omega),yA (by omega),yA (by omega)];exact hr⟩
   unfold bq
   rw [zR hm]
   exact B1.add p) (nx.map cO).length 0 (lim+1) _ s (by omega) (by simp [lim];omega) ⟨⟨z11,rfl⟩,B,hr⟩
 subst he
 rw [yM,List.take_length] at B'
 exact ⟨s',y,F,B'⟩
end
def UW {n:Nat}{i:Int}{s:ae}:aR zt (.ref n) (.int i) s=zt (.ref n) (.int i) s:=rfl
def UX {n:Nat}{z:Str}{s:ae}:aR zt (.ref n) (.str z) s=zt (.ref n) (.str z) s:=rfl
noncomputable abbrev tW:Ak:=(mB (ze wR (zu yH (zd (zc 7) zm)) (zu yH (zd (zc 5) zm))))
noncomputable abbrev bW:Aj:=(zw (zG 8 (ze (aR zt) (zc 5) (zu yH (zd (zc 7) zm))))
  (zw (zG 9 (ze (aR zt) (zc 3) (ze (aR zt) (zc 8) (Ar 0))))
  (zw (zG 10 (iS "best_form" qW (zc 4) (zd (zc 9) (zd (ze (aR zt) (zc 8) (Ar 1)) zm))))
  (zw (yT (yN yR (zc 7) (zc 10)))
  (yU (yQ (zu qX (zd (zc 9) (zd (ze (aR zt) (zc 10) (Ar 3)) zm)))) (gN 11)
  cB)))))
theorem bw {Fs:List FD}(P:aP Fs) {ks:Ag}{f3 o q b m5 m6 m7:Nat}{st:ae}{fs:An}{bits:Int}{ws:PV}:∀(n fuel i:Nat) (met:List Pr) (s:ae) (z8 z9 z10 z11:Ao),12800-i<=n->n<fuel->BS Fs ks f3 o q b m5 m6 m7 st s met ((met.take i).map (a8 Fs ks))->i<=met.length->met.Nodup->(∀x∈met,Gd Fs x) ->
  ∃s' fin y8 y9 uP uQ,cf tW bW fuel (eW fs bits ws f3 o m5 m6 m7 z8 z9 z10 z11) s=.ok (.nx (eW fs bits ws f3 o m5 m6 m7 y8 y9 uP uQ)) s'/\fq Fs ks i met fin/\BS Fs ks f3 o q b m5 m6 m7 st s' fin (fin.map (a8 Fs ks)):=by
 intro n
 induction n with
 | zero =>
  intro fuel i met s z8 z9 z10 z11 hn hf B hi nd g
  have ml:=BL P nd g
  have e:i=met.length:=by omega
  subst e
  rw [List.take_length] at B
  obtain ⟨f,rfl⟩:∃f,fuel=f+1:=⟨fuel-1,by omega⟩
  have L1:=wV B.G
  have L2:=wV B.M
  have T:tW (eW fs bits ws f3 o m5 m6 m7 z8 z9 z10 z11) s=.ok false s:=zW (zo (zD (zM (zf rfl)) L1) (zD (zM (zf rfl)) L2) (kT false (by simp) _))
  exact ⟨s,met,z8,z9,z10,z11,by rw [qr,T,zJ,zR (by simp)],.done met,B⟩
 | succ n ih =>
  intro fuel i met s z8 z9 z10 z11 hn hf B hi nd g
  have ml:=BL P nd g
  obtain ⟨f,rfl⟩:∃f,fuel=f+1:=⟨fuel-1,by omega⟩
  have L1:=wV B.G
  have L2:=wV B.M
  rw [yM,List.length_take] at L1
  rw [yM] at L2
  by_cases e:i=met.length
  ·subst e
   rw [List.take_length] at B
   have T:tW (eW fs bits ws f3 o m5 m6 m7 z8 z9 z10 z11) s=.ok false s:=zW (zo (zD (zM (zf rfl)) L1) (zD (zM (zf rfl)) L2) (kT false (by simp) _))
   exact ⟨s,met,z8,z9,z10,z11,by rw [qr,T,zJ,zR (by simp)],.done met,B⟩
  ·have bh:i<met.length:=by omega
   rw [Nat.min_eq_left hi] at L1
   have hp:met[i]?=some (met[i]'bh):=yB bh
   generalize met[i]'bh=p at hp
   have T:tW (eW fs bits ws f3 o m5 m6 m7 z8 z9 z10 z11) s=.ok true s:=zW (zo (zD (zM (zf rfl)) L1) (zD (zM (zf rfl)) L2) (kT true (by simp;omega) _))
   obtain ⟨F,hF,ID,UY,Tn⟩:=g p (jV hp)
   have kY:Fs.find? (λG=>decide (G.nz=p.1))=some F:=by rw [<-ID];exact rE P.nd hF
   have UZ:a8 Fs ks p=dn Fs ks F p.2:=by unfold a8;rw [kY]
   have U0:bI Fs ks p=cC Fs ks F p.2:=by unfold bI;rw [kY]
   have I8:aR zt (.ref m5) (.int (i:Int)) s=.ok (cO p) s:=by
    rw [UW,mK,yD B.M,aU (x:=cO p) (by rw [yI,hp];rfl)]
    rfl
   obtain ⟨j,hj⟩:=List.getElem?_of_mem hF
   have lk:((Fs.map (·.nz)).zip (Fs.map FD.v)).lookup p.1=some F.v:=uE (j:=j) P.nd (by rw [yI,hj,<-ID];rfl) (by rw [yI,hj];rfl)
   have I9:aR zt (.ref f3) (.str p.1) s=.ok F.v s:=UX.trans (BJ B.Fd lk)
   obtain ⟨s1,U3,H1,br,_⟩:=UH P B.H hF p.2 UY
   have B1:=B.bar br H1
   have A:=kW (y:=dn Fs ks F p.2) B1.G (by simp;omega)
   have B2:=B1.setG (dn Fs ks F p.2)
   obtain ⟨r,s3,BN,hr,rl,o3⟩:=UM P hF (bt Fs ks F p.2).2 (s1.set m7 (.lst ((met.take i).map (a8 Fs ks)++[dn Fs ks F p.2])))
   have B3:=B2.old o3
   have Xf:(cC Fs ks F p.2).length<=100:=by
    have h1:(cC Fs ks F p.2).length<=((a4 F.ls).map (·.1)).length:=by unfold cC;rw [List.length_zip];omega
    have h2:(a4 F.ls).length<=F.ls.length:=jr (List.length_filterMap_le _ _) (by simp)
    have h3:=(P.fn F hF).nl
    rw [yM] at h1
    omega
   obtain ⟨s4,y,F4,B4⟩:=UU (fs:=fs) (bits:=bits) (ws:=ws) (z8:=some (cO p)) (z9:=some F.v) (z10:=some (dn Fs ks F p.2)) (z11:=z11) (nx:=cC Fs ks F p.2) B3 hr (rl _ _ B2.G) (by omega)
   have FO:(yU (yQ (zu qX (zd (zc 9) (zd (ze (aR zt) (zc 10) (Ar 3)) zm)))) (gN 11) cB) (eW fs bits ws f3 o m5 m6 m7 (some (cO p)) (some F.v) (some (dn Fs ks F p.2)) z11) (s1.set m7 (.lst ((met.take i).map (a8 Fs ks)++[dn Fs ks F p.2])))=.ok (.nx (eW fs bits ws f3 o m5 m6 m7 (some (cO p)) (some F.v) (some (dn Fs ks F p.2)) y)) s4:=by
    rw [gX,j7,zD (zX (zf rfl) (zo (zf rfl) rfl Us)) BN,zJ,tE,yD hr,zJ]
    exact F4
   have W:bW (eW fs bits ws f3 o m5 m6 m7 z8 z9 z10 z11) s=.ok (.nx (eW fs bits ws f3 o m5 m6 m7 (some (cO p)) (some F.v) (some (dn Fs ks F p.2)) y)) s4 :=
    zy (zN (zo (zf rfl) (zD (zM (zf rfl)) L1) I8)) (zy (zN (zo (zf rfl) (zo (zf rfl) rfl lR) I9)) (zy (zN (BI (zf rfl) B.H.at_ (by decide +kernel) (show qW "Holding" = some m_Holding_best_form from zF rfl) (zX (zf rfl) (zo (zf rfl) rfl uK)) U3)) (zy (wW (wz (zf rfl) B1.G (zf rfl) A)) FO)))
   have B4:BS Fs ks f3 o q b m5 m6 m7 st s4 ((cC Fs ks F p.2).foldl bq met) ((met.take i).map (a8 Fs ks)++[dn Fs ks F p.2]):=B4
   rw [<-U0] at B4
   obtain ⟨t,et⟩:=uO (l:=bI Fs ks p) (met:=met)
   have fX:=Iw (l:=bI Fs ks p) nd
   have g':∀x∈(bI Fs ks p).foldl bq met,Gd Fs x:=λx hx=>(Iy hx).elim (g x) (IB P x)
   have tk:((bI Fs ks p).foldl bq met).take (i+1)=met.take i++[p]:=by
    rw [et,List.take_append_of_le_length (by omega)]
    exact kS hp
   have B5:BS Fs ks f3 o q b m5 m6 m7 st s4 ((bI Fs ks p).foldl bq met) ((((bI Fs ks p).foldl bq met).take (i+1)).map (a8 Fs ks)):=by
    rw [tk,jA,List.map_singleton,UZ]
    exact B4
   obtain ⟨s',fin,y8,y9,uP,uQ,E',R',B'⟩:=ih f (i+1) _ s4 (some (cO p)) (some F.v) (some (dn Fs ks F p.2)) y (by omega) (by omega) B5 (by rw [et,iA];omega) fX g'
   exact ⟨s',fin,y8,y9,uP,uQ,by rw [qr,T,zJ,zF rfl,W,zJ];exact E',.step i met fin p hp R',B'⟩
theorem U4 {F0:FD}{Fr:List FD}(P:aP (F0::Fr)) (bits:Int) (h0:0<=bits) (h1:bits<2 ^ F0.ps.length) (ws:Ag) (hw:ws.length<=1000) (st:ae):∃ks fin s1,qY [.tup ((F0::Fr).map FD.v),.int bits,.tup (ws.map aW)] st=.ok (.tup (fin.map (a8 (F0::Fr) ks))) s1/\fq (F0::Fr) ks 0 [(F0.nz,bits)] fin/\(∀k,k∈ks↔k∈ws)/\Old st s1:=by
 obtain ⟨s1,E1,hd,o1⟩:=H9 P st
 obtain ⟨ks,q,b,s2,E2,H2,hm,lq,qb,o2⟩:=Ux P ws hw s1
 let s3:=s2++[SO.lst [cO (F0.nz,bits)]]
 have IE:s3[s2.length]?=some (.lst [cO (F0.nz,bits)]):=yt _ _
 obtain ⟨s4,E4,hK,o4⟩:=Ur (k:=cu (F0.nz,bits)) IE
 let s5:=s4++[SO.lst []]
 have bl:=yv H2.bs
 have l3:s3.length=s2.length+1:=by simp [s3]
 have l4:s3.length<s4.length:=hK.lt
 have l1:st.length<s1.length:=yv hd
 have BO:Old s2 s5:=(yb _ _).trans (o4.trans (yb _ _))
 have B0:BS (F0::Fr) ks st.length s1.length q b s2.length s3.length s4.length st s5 [(F0.nz,bits)] (([(F0.nz,bits)].take 0).map (a8 (F0::Fr) ks)) :=
  ⟨BO _ _ (o2 _ _ hd),H2.old BO,yb _ _ _ _ (o4 _ _ IE),hK.old (yb _ _),yt _ _,λm so e=>BO _ _ (o2 _ _ (o1 _ _ e)),yk _,l1,lq,qb,bl,by omega,l4⟩
 obtain ⟨s',fin,y8,y9,uP,uQ,E,R,B⟩:=bw P (fs:=(F0::Fr).map FD.v) (bits:=bits) (ws:=.tup (ws.map aW)) 12800 lim 0 [(F0.nz,bits)] s5 none none none none (by omega) (by simp [lim]) B0 (by simp) (by simp) (λx hx=>by rw [jP.mp hx];exact ⟨F0,yO ..,rfl,h0,h1⟩)
 refine ⟨ks,fin,s',yf rfl (zy (zN (zD (zM (zf rfl)) E1)) (zy (zN (zD (zX (zf rfl) (zf rfl)) E2)) (zy (zN (jz (zM (ya (zX (zo (zo (zf rfl) rfl lR) rfl lR) (zf rfl)) (by simp))) (by simp))) (zy (zN (zD (zM (zf rfl)) E4)) (zy (zN (jz jO (by simp))) (zy E (yh (zD (zM (zf rfl)) (by rw [wM,yD B.G]))))))))),R,hm,B.F⟩
def uR {g:PV->zj->Option zj}{body:Aj}{x:PV}{r:An}{e e1:zj}{s s1:ae}{v:PV}(h:g x e=some e1) (hb:body e1 s=.ok (.rt v) s1):forL g body (x::r) e s=.ok (.rt v) s1:=by
 unfold forL
 rw [h]
 simp only
 rw [hb,zJ]
def uS {g:PV->zj->Option zj}{body:Aj}{x:PV}{r:An}{e e1 e2:zj}{s s1:ae}{X:Res Fl}(h:g x e=some e1) (hb:body e1 s=.ok (.nx e2) s1) (hr:forL g body r e2 s1=X):forL g body (x::r) e s=X:=by
 unfold forL
 rw [h]
 simp only
 rw [hb,zJ]
 exact hr
noncomputable abbrev bY:Aj:=(zZ (mB (ze wT (ze zt (zc 2) (Ar 0)) (zc 1)))
  (zV (zc 2))
  ye)
theorem IF {x0:Ao}{s:ae}:∀(Fs:List FD) {F:FD}{z2:Ao},(Fs.map (·.nz)).Nodup->F∈Fs->forL (gN 2) bY (Fs.map FD.v) [x0,some (.str F.nz),z2] s=.ok (.rt F.v) s
 | [],_,_,_,h=>nomatch h
 | G::Fs,F,z2,nd,h=>by
  rw [yo,jB] at nd
  rw [yo]
  by_cases e:G.nz=F.nz
  ·have GF:G=F:=by
    rcases yz.mp h with q|q
    ·exact q.symm
    ·exact absurd (jd.mpr ⟨F,q,e.symm⟩) nd.1
   subst GF
   exact uR (e1:=[x0,some (.str G.nz),some G.v]) rfl (yJ (zW (zo (zo (zf rfl) rfl yK) (zf rfl) (q8 _ _ true (by simp) _))) (yh (zf rfl)))
  ·have hm:F∈Fs:=(yz.mp h).resolve_left λq=>e (by rw [q])
   exact uS (e1:=[x0,some (.str F.nz),some G.v]) rfl (yu (zW (zo (zo (zf rfl) rfl yK) (zf rfl) (q8 _ _ false (by simpa using e) _)))) (IF Fs nd.2 hm)
def U5 {Fs:List FD}(P:aP Fs) {F:FD}(h:F∈Fs) (s:ae):ud [.tup (Fs.map FD.v),.str F.nz] s=.ok F.v s:=by
 refine yf rfl (jf ?_)
 rw [gX,j7,zf rfl,zJ]
 show (Res.ok (Sq.im (Fs.map FD.v)) s).bind _=_
 rw [zJ]
 exact IF Fs P.nd h
def BP {nk:Ad}{a:PV}(h:cm nk a) {L T:Ad}(hT:∀z∈T,z∉nk):aJ (L++T) a=aJ L a:=by
 cases h with
 | of z hz =>
  rw [uF,uF]
  congr 1
  refine propext ⟨λh=>?_,λh=>wF _ h⟩
  rcases jG.mp h with q|q
  ·exact q
  ·exact absurd hz (hT z q)
 | is v=>rw [uG,uG]
def IG {Fs:List FD}{ks:Ag}{nk:Ad}{L T:Ad}{f:Str}{as:An}(ha:∀a∈as,cm nk a) (hT:∀z∈T,z∉nk):gl Fs ks (L++T) f as=gl Fs ks L f as:=by
 have e:as.map (aJ (L++T))=as.map (aJ L):=List.map_congr_left λa h=>BP (ha a h) hT
 unfold gl dm
 rw [e]
def IH {Fs:List FD}{ks:Ag}{nz:Str}{hs:List (Str×Nat)}{nk:Ad}{ls:An}{zs:Ad}(h:cb hs nk ls zs):∀(L:Ad),∀z∈(wk Fs ks nz L (ls.map li)).1,z∈zs:=by
 induction h with
 | nil=>intro L z h;simp [wk] at h
 | stp nk z0 v ls zs hv _ ih =>
  intro L z h
  cases hv with
  | let_ o n as =>
   rw [yo,ig] at h
   unfold wk at h
   split at h
   ·rcases yz.mp h with q|q
    ·rw [q];exact yO ..
    ·exact yX _ (ih _ z q)
   ·exact yX _ (ih _ z h)
  | call f as =>
   rw [yo,ik] at h
   unfold wk at h
   rcases yz.mp h with q|q
   ·rw [q];exact yO ..
   ·exact yX _ (ih _ z q)
 | fin nk e ls zs he _ ih =>
  intro L z h
  cases he with
  | give x hx=>rw [yo,show li (.tup [.str "give", x])=.oth by cases hx<;>rfl] at h;exact ih L z h
  | fail w=>exact ih L z h
  | if_ x v1 v2 hx=>rw [yo,show li (.tup [.str "if", x,v1,v2])=.oth by cases hx<;>rfl] at h;exact ih L z h
  | go f as =>
   rw [yo,iq] at h
   unfold wk at h
   exact ih L z h
def U6 {Fs:List FD}{ks:Ag}{nz:Str}{hs:List (Str×Nat)}{nk:Ad}{ls:An}{zs:Ad}(h:cb hs nk ls zs):∀(L:Ad),(nk++zs).Nodup->(wk Fs ks nz L (ls.map li)).2=(a4 ls).map λp=>gl Fs ks (L++(wk Fs ks nz L (ls.map li)).1) p.1 p.2:=by
 induction h with
 | nil=>intro L _;rfl
 | stp nk z0 v ls zs hv cq ih =>
  intro L nd
  have fX:(nk++[z0]++zs).Nodup:=by simpa using nd
  have BQ:∀z∈z0::zs,z∉nk:=λz hz hm=>(List.nodup_append.mp nd).2.2 z hm z hz rfl
  cases hv with
  | let_ o n as =>
   show (wk Fs ks nz L (li _::ls.map li)).2=(List.filterMap aimL (li _::ls.map li)).map λp=>gl Fs ks (L++(wk Fs ks nz L (li _::ls.map li)).1) p.1 p.2
   rw [ig,show List.filterMap aimL (Li.let_ z0 as::ls.map li)=a4 ls from rfl]
   unfold wk
   split
   ·have:=ih (L++[z0]) fX
    simp only
    rw [this]
    simp
   ·exact ih L fX
  | call f as hf cN =>
   show (wk Fs ks nz L (li _::ls.map li)).2=(List.filterMap aimL (li _::ls.map li)).map λp=>gl Fs ks (L++(wk Fs ks nz L (li _::ls.map li)).1) p.1 p.2
   rw [ik,show List.filterMap aimL (Li.call z0 f as::ls.map li)=(f,as)::a4 ls from rfl]
   unfold wk
   have:=ih (L++[z0]) fX
   simp only [yo]
   rw [IG cN (λz hz=>BQ z (by
    rcases yz.mp hz with q|q
    ·rw [q];exact yO ..
    ·exact yX _ (IH cq _ z q))),this]
   simp
 | fin nk e ls zs he cq ih =>
  intro L nd
  have BQ:∀z∈zs,z∉nk:=λz hz hm=>(List.nodup_append.mp nd).2.2 z hm z hz rfl
  have no:li e=.oth->(wk Fs ks nz L ((e::ls).map li)).2=(a4 (e::ls)).map λp=>gl Fs ks (L++(wk Fs ks nz L ((e::ls).map li)).1) p.1 p.2:=λrG=>by
   show (wk Fs ks nz L (li _::ls.map li)).2=(List.filterMap aimL (li _::ls.map li)).map λp=>gl Fs ks (L++(wk Fs ks nz L (li _::ls.map li)).1) p.1 p.2
   rw [rG]
   exact ih L nd
  cases he with
  | give x hx=>exact no (by cases hx<;>rfl)
  | fail w=>exact no rfl
  | if_ x v1 v2 hx=>exact no (by cases hx<;>rfl)
  | go f as hf cN =>
   show (wk Fs ks nz L (li _::ls.map li)).2=(List.filterMap aimL (li _::ls.map li)).map λp=>gl Fs ks (L++(wk Fs ks nz L (li _::ls.map li)).1) p.1 p.2
   rw [iq,show List.filterMap aimL (Li.go f as::ls.map li)=(f,as)::a4 ls from rfl]
   unfold wk
   simp only [yo]
   rw [IG cN (λz hz=>BQ z (IH cq _ z hz)),ih L nd]
def II {Fs:List FD}{ks ws:Ag}(h:∀k,k∈ks↔k∈ws) {nz:Str}:∀(l:List Li) (L:Ad),wk Fs ks nz L l=wk Fs ws nz L l:=by
 have rh:∀k,bj k ks=bj k ws:=λk=>by rw [Bool.eq_iff_iff,tX,tX];exact h k
 have ge:∀L f as,gl Fs ks L f as=gl Fs ws L f as:=λL f as=>by
  unfold gl dm
  simp only [rh]
 intro l
 induction l with
 | nil=>intro L;rfl
 | cons x l ih =>
  intro L
  cases x with
  | let_ z as=>unfold wk;rw [rh,ih,ih]
  | call z f as=>unfold wk;rw [ge,ih]
  | go f as=>unfold wk;rw [ge,ih]
  | oth=>unfold wk;exact ih L
def IJ {Fs:List FD}{ks ws:Ag}(h:∀k,k∈ks↔k∈ws):a8 Fs ks=a8 Fs ws/\bI Fs ks=bI Fs ws:=by
 constructor
 ·funext p
  unfold a8 dn bt
  simp only [II h]
 ·funext p
  unfold bI cC bt
  simp only [II h]
def U7 {Fs:List FD}{ks ws:Ag}(h:∀k,k∈ks↔k∈ws) {i:Nat}{met fin:List Pr}(R:fq Fs ks i met fin):fq Fs ws i met fin:=by
 induction R with
 | done met=>exact .done met
 | step i met fin p hp _ ih=>rw [(IJ h).2] at ih;exact .step i met fin p hp ih
noncomputable abbrev IK:Aj:=(zw (zG 4 (ze zt (zc 1) (zu jT (zd (zc 0) (zd (ze zT (Ar 31) (zc 3)) (zd (zu yH (zd (zc 1) zm)) zm))))))
  (zw (zG 5 (ze zT (zu gZ (zd (ze zt (zc 4) (Ar 1)) zm)) (jb (zd (As "nothing") zm))))
  (zw (zG 5 (ze zT (zc 5) (lJ (yQ (zu mU (zd (ze zt (zc 4) (Ar 2)) zm))) (jw (mB (ze yi (ze zt (zc 0) (Ar 0)) (As "let"))) (mB (ze yi (ze zt (zc 0) (Ar 0)) (As "call")))) (ze zt (zc 0) (Ar 1)))))
  (yT (yN yR (zc 2) (zE (zd (ze zt (zc 4) (Ar 0)) (zd (ze zt (zc 5) (zu jT (zd (zc 0) (zd (ze zT (Ar 35) (zc 3)) (zd (zu yH (zd (zc 5) zm)) zm))))) zm))))))))
noncomputable def lS:PV->Str
 | .tup (_ :: .str z::_)=>z
 | _ => ""
def U8 {hs:List (Str×Nat)}{k:Ad}{z:Str}{l:PV}(h:cJ hs k z l):lS l=z:=by cases h<;>rfl
def U9 {hs:List (Str×Nat)} {l:PV} (h:(∃k z,cJ hs k z l)\/∃k,dY hs k l) {e:zj} {s:ae} (h0:e[0]?=some (some l)):(jw (mB (ze yi (ze zt (zc 0) (Ar 0)) (As "let"))) (mB (ze yi (ze zt (zc 0) (Ar 0)) (As "call")))) e s=.ok (d_ l) s:=by
 rcases h with ⟨k,z,h⟩|⟨k,h⟩
 ·rw [Ug h]
  cases h with
  | let_ o n as=>exact FE (q0 h0 (eK _))
  | call f as=>exact iW (q0 h0 (dA (ja n1) _)) (q0 h0 (eK _))
 ·have no:=zev h
  rw [HJ no]
  obtain ⟨w,r,rfl,h1,h2⟩:=no
  exact iW (q0 h0 (dA h1 _)) (q0 h0 (dA h2 _))
def U_ (ls:An):(ls.flatMap λx=>if d_ x=true then [PV.str (lS x)] else [])=((ls.filter d_).map lS).map PV.str:=by
 induction ls with
 | nil=>rfl
 | cons x l ih =>
  rw [rR,ih]
  cases hx:d_ x with
  | true=>rw [zF rfl,List.filter_cons_of_pos hx];rfl
  | false=>rw [zR (by simp),List.filter_cons_of_neg (by rw [hx];simp)];rfl
noncomputable abbrev eH (c:Int) (pv:PV) (h:Nat) (z4 z5 z6:Ao):zj:=[some (.int c),some pv,At h,z4,z5,z6]
theorem Va {Fs:List FD}(P:aP Fs) (c:Int) {h i:Nat}(hi:i<=100) {z5 z6:Ao}{s:ae}{ws:Ag}(hh:s[h]?=some (.lst (ws.map aW))) (hw:ws.length<=100) :
  ∃s' k y5 y6,IK (eH c (.tup (Fs.map FD.v)) h (Au i) z5 z6) s=.ok (.nx (eH c (.tup (Fs.map FD.v)) h (Au i) y5 y6)) s'/\s'[h]?=some (.lst ((ws++[k]).map aW))/\bx h s s':=by
 have pos:0<Fs.length:=by have:=P.ok.pos;simpa using this
 have few:=P.few
 have L1:yH [.tup (Fs.map FD.v)] s=.ok (.int (Fs.length:Int)) s:=by
  rw [oK,yM]
 obtain ⟨j,hj,ej⟩:=gr c (31+i) Fs.length (by omega) pos s
 have hF:Fs[j]?=some (Fs[j]'hj):=yB hj
 generalize Fs[j]'hj=F at hF
 have hm:=jV hF
 have ok:=P.fn F hm
 obtain ⟨dd,oX,B⟩:=ok.bk
 have nl:=ok.nl
 have np:=ok.np
 have al:=rH ok.ln
 have I5:zt (.tup (Fs.map FD.v)) (.int (j:Int)) s=.ok F.v s:=by
  show b_ (cY (Fs.map FD.v) (j:Int)) s=_
  rw [aU (x:=F.v) (by rw [yI,hF];rfl)]
  rfl
 let t1:=s++[SO.lst (F.ps.map PV.str)]
 let t2:=t1++[SO.lst [.str "nothing"]]
 let n0:Ad:=F.ps++[("nothing" : Str)]
 let t3:=t2++[SO.lst (n0.map PV.str)]
 have A1:zT (.ref s.length) (.ref t1.length) t2=.ok (.ref t2.length) t3:=by
  have:=oU (s:=t2) (m:=s.length) (n:=t1.length) (xs:=F.ps.map PV.str) (ys:=[.str "nothing"]) (yb _ _ _ _ (yt _ _)) (yt _ _) (by simp;omega)
  rw [show F.ps.map PV.str++[.str "nothing"]=n0.map PV.str by simp [n0]] at this
  exact this
 obtain ⟨r,t4,E4,hr,o4⟩:=HI B (by omega) (by omega) t3
 let zs:=(F.ls.filter d_).map lS
 let t5:=t4++[SO.lst (zs.map PV.str)]
 have C:∀(e:zj),e[4]?=some (some F.v)->(lJ (yQ (zu mU (zd (ze zt (zc 4) (Ar 2)) zm))) (jw (mB (ze yi (ze zt (zc 0) (Ar 0)) (As "let"))) (mB (ze yi (ze zt (zc 0) (Ar 0)) (As "call")))) (ze zt (zc 0) (Ar 1))) e t3=.ok (.ref t4.length) t5:=λe he=>by
  rw [FC,j7,zD (zM (zo (zf he) rfl jI)) E4,zJ,tE,yD hr,zJ]
  have:=Bl (ft:=(jw (mB (ze yi (ze zt (zc 0) (Ar 0)) (As "let"))) (mB (ze yi (ze zt (zc 0) (Ar 0)) (As "call"))))) (fe:=(ze zt (zc 0) (Ar 1))) (env:=e) (st:=t4) (n:=r) (p:=d_) (f:=λx=>PV.str (lS x)) F.ls hr (λx hx=>U9 (al x hx) rfl) (λx hx hp=>by
   rcases al x hx with ⟨k,z,h⟩|⟨k,h⟩
   ·rw [U8 h];exact zo (zf rfl) rfl (BA h _)
   ·rw [HJ (zev h)] at hp;cases hp) F.ls.length 0 (lim+1) [] (by omega) (by simp [lim];omega)
  rw [List.drop_zero,List.nil_append,U_] at this
  exact this
 have zl:zs.length<=F.ls.length:=by simp only [zs,yM];exact List.length_filter_le _ _
 have Vb:t5[t2.length]?=some (.lst (n0.map PV.str)):=yb _ _ _ _ (o4 _ _ (yt _ _))
 let n1:Ad:=n0++zs
 let t6:=t5++[SO.lst (n1.map PV.str)]
 have Xg:n0.length=F.ps.length+1:=by simp [n0]
 have A2:zT (.ref t2.length) (.ref t4.length) t5=.ok (.ref t5.length) t6:=by
  have:=oU (s:=t5) (m:=t2.length) (n:=t4.length) (xs:=n0.map PV.str) (ys:=zs.map PV.str) Vb (yt _ _) (by simp only [yM];omega)
  rw [<-jA] at this
  exact this
 have h6:t6[t5.length]?=some (.lst (n1.map PV.str)):=yt _ _
 have Xh:n1.length=n0.length+zs.length:=by simp [n1]
 have L6:=wV h6
 rw [yM] at L6
 obtain ⟨g,hg,eg⟩:=gr c (35+i) n1.length (by omega) (by omega) t6
 have I6:zt (.ref t5.length) (.int (g:Int)) t6=.ok (.str (n1[g]'hg)) t6:=fD h6 hg
 have o6:Old s t6:=(yb _ _).trans ((yb _ _).trans ((yb _ _).trans (o4.trans ((yb _ _).trans (yb _ _)))))
 have BR:=o6 _ _ hh
 have A:=kW (y:=aW (pk F.nz (n1[g]'hg))) BR (by simp;omega)
 refine ⟨_,pk F.nz (n1[g]'hg),_,_,zy (zN (zo (zf rfl) (zD (yL (zf rfl) (zo rfl (zf rfl) (yY 31 i)) (zD (zM (zf rfl)) L1)) ej) I5)) (zy (zN (zo (zD (zM (zo (zf rfl) rfl yZ)) S8) (jz (zM rfl) (by simp)) A1)) (zy (zN (zo (zf rfl) (C _ rfl) A2)) (wW (wz (zf rfl) BR (ya (zX (zo (zf rfl) rfl yK) (zo (zf rfl) (zD (yL (zf rfl) (zo rfl (zf rfl) (yY 35 i)) (zD (zM (zf rfl)) L6)) eg) I6)) (by simp)) A)))),?_,o6.bar.trans i9⟩
 rw [ju (yv BR),jA]
 rfl
theorem Vc {Fs:List FD}(P:aP Fs) (c:Int) (st:ae):∃(ws:Ag) (s1:ae),Bc [.int c,.tup (Fs.map FD.v)] st=.ok (.tup (ws.map aW)) s1/\ws.length<=30/\Old st s1:=by
 let s0:=st++[SO.lst []]
 obtain ⟨a,ha,ea⟩:=gr c 30 4 (by decide) (by decide) s0
 obtain ⟨e',s1,F,⟨z4,z5,z6,he⟩,ws,hw,hl,ob⟩:=kU (gt:=gN 3) (body:=IK) (fs:=(zd (zu jT (zd (zc 0) (zd (Ar 30) (zd (Ar 4) zm)))) zm)) (e:=eH c (.tup (Fs.map FD.v)) st.length none none none) (st:=s0) (λi e s=>(∃z4 z5 z6,e=eH c (.tup (Fs.map FD.v)) st.length z4 z5 z6)/\∃ws:Ag,s[st.length]?=some (.lst (ws.map aW))/\ws.length=i/\bx st.length s0 s) a (by omega) (zM (zD (yL (zf rfl) rfl rfl) ea)) (λi e s hi ⟨⟨z4,z5,z6,he⟩,ws,hw,hl,ob⟩=>by
  subst he
  obtain ⟨s',k,y5,y6,E,w1,w2⟩:=Va P c (i:=i) (by omega) (z5:=z5) (z6:=z6) hw (by omega)
  exact ⟨eH c (.tup (Fs.map FD.v)) st.length (Au i) z5 z6,_,s',rfl,E,⟨_,_,_,rfl⟩,_,w1,by simp [hl],ob.trans w2⟩) ⟨⟨none,none,none,rfl⟩,[],yt _ _,rfl,bx.refl _ _⟩
 subst he
 exact ⟨ws,s1,yf rfl (zy (zN (jz jO (by simp))) (zy F (yh (zD (zM (zf rfl)) (by rw [wM,yD hw]))))),by omega,λk so e=>ob k so (by have:=yv e;omega) (yb _ _ _ _ e)⟩
def BU (i:Int) (s:ae):kR [.int i] s=.ok (.bl true) s:=yf rfl (yh (qK (zD (zX (zf rfl) rfl) (show je isT [.int i,.ty "int"] s=.ok (.bl true) s from rfl)) (show xq (zu (je isT) (zd (zc 0) (zd (mC (.ty "bool")) zm))) [some (.int i)] s=.ok (.bl true) s from rfl)))
theorem BV {α:Type}:∀l:List α,l.map (λ_=>PV.bl true)=(List.replicate l.length true).map PV.bl
 | []=>rfl
 | x::l=>by rw [yo,BV l,jt,List.replicate_succ];rfl
def BW {s:ae}{n k:Nat}(h:s[n]?=some (.lst ((List.replicate k true).map PV.bl))):mO [.ref n] s=.ok (.bl true) s:=by
 rw [QX h]
 simp
theorem Vd (f:Str) (b:Int) (zs:Ad) (gs:List Int) (h1:zs.length<=1000) (h2:gs.length<=1000) (s:ae):∃s1,qZ [.tup [.str f,.int b,.tup (zs.map PV.str),.tup (gs.map PV.int)]] s=.ok (.bl true) s1/\Old s s1:=by
 let v:PV:=.tup [.str f,.int b,.tup (zs.map PV.str),.tup (gs.map PV.int)]
 have T1:(jw (j9 (mB (zu (je isT) (zd (zc 0) (zd (mC (.ty "tuple")) zm))))) (mB (ze jL (zu yH (zd (zc 0) zm)) (Ar 4)))) [some v] s=.ok false s:=iW (lK (b:=true) (zW (zD (zX (zf rfl) rfl) (show je isT [v,.ty "tuple"] s=.ok (.bl true) s from rfl)))) (zW (zo (zD (zM (zf rfl)) (oK _)) rfl (by simp [jL,Mi.plain,dep,bz])))
 have T2:(jw (j9 (mB (zu (je isT) (zd (ze zt (zc 0) (Ar 0)) (zd (mC (.ty "str")) zm))))) (j9 (mB (zu kR (zd (ze zt (zc 0) (Ar 1)) zm))))) [some v] s=.ok false s:=iW (lK (b:=true) (zW (zD (zX (zo (zf rfl) rfl yK) rfl) (show je isT [.str f,.ty "str"] s=.ok (.bl true) s from rfl)))) (lK (b:=true) (zW (zD (zM (zo (zf rfl) rfl yZ)) (BU b s))))
 have T3:(jw (j9 (mB (zu (je isT) (zd (ze zt (zc 0) (Ar 2)) (zd (mC (.ty "tuple")) zm))))) (j9 (mB (zu (je isT) (zd (ze zt (zc 0) (Ar 3)) (zd (mC (.ty "tuple")) zm)))))) [some v] s=.ok false s:=iW (lK (b:=true) (zW (zD (zX (zo (zf rfl) rfl jI) rfl) (show je isT [.tup (zs.map PV.str),.ty "tuple"] s=.ok (.bl true) s from rfl)))) (lK (b:=true) (zW (zD (zX (zo (zf rfl) rfl wC) rfl) (show je isT [.tup (gs.map PV.int),.ty "tuple"] s=.ok (.bl true) s from rfl))))
 have C1:=oF (fe:=(zu (je isT) (zd (zc 0) (zd (mC (.ty "str")) zm)))) (env:=[some v]) (f:=λ_=>.bl true) (st:=s) (zs.map PV.str) (λx hx=>by
  obtain ⟨z,_,rfl⟩:=jd.mp hx
  exact zD (zX (zf rfl) rfl) (show je isT [.str z,.ty "str"] s=.ok (.bl true) s from rfl)) []
 have e1:([]:An)++(zs.map PV.str).map (λ_=>PV.bl true)=(List.replicate zs.length true).map PV.bl:=by rw [List.nil_append,BV,yM]
 rw [e1] at C1
 let s1:=s++[SO.lst ((List.replicate zs.length true).map PV.bl)]
 have C2:=oF (fe:=(zu kR (zd (zc 0) zm))) (env:=[some v]) (f:=λ_=>.bl true) (st:=s1) (gs.map PV.int) (λx hx=>by
  obtain ⟨z,_,rfl⟩:=jd.mp hx
  exact zD (zM (zf rfl)) (BU z s1)) []
 have e2:([]:An)++(gs.map PV.int).map (λ_=>PV.bl true)=(List.replicate gs.length true).map PV.bl:=by rw [List.nil_append,BV,yM]
 rw [e2] at C2
 let s2:=s1++[SO.lst ((List.replicate gs.length true).map PV.bl)]
 have D1:(jD (yQ (ze zt (zc 0) (Ar 2))) (zu (je isT) (zd (zc 0) (zd (mC (.ty "str")) zm)))) [some v] s=.ok (.ref s.length) s1:=by
  rw [lH,j7,zo (zf rfl) rfl jI,zJ]
  show (Res.ok (Sq.im (zs.map PV.str)) s).bind _=_
  rw [zJ,lI,zF (by simp [lim];omega)]
  exact C1
 have D2:(jD (yQ (ze zt (zc 0) (Ar 3))) (zu kR (zd (zc 0) zm))) [some v] s1=.ok (.ref s1.length) s2:=by
  rw [lH,j7,zo (zf rfl) rfl wC,zJ]
  show (Res.ok (Sq.im (gs.map PV.int)) s1).bind _=_
  rw [zJ,lI,zF (by simp [lim];omega)]
  exact C2
 exact ⟨s2,yf rfl (zy (yu T1) (zy (yu T2) (zy (yu T3) (yh (qK (zD (zM D1) (BW (yt _ _))) (zD (zM D2) (BW (yt _ _)))))))),(yb _ _).trans (yb _ _)⟩
theorem IL {Fs:List FD}{ws:Ag}{nz:Str}:∀(l:List Li) (L:Ad),(wk Fs ws nz L l).1.length<=l.length
 | [],L=>by simp [wk]
 | x::l,L=>by
  have h:=λL'=>IL (Fs:=Fs) (ws:=ws) (nz:=nz) l L'
  cases x with
  | let_ z as=>have:=h (L++[z]);have:=h L;rw [wk];split<;>simp<;>omega
  | call z f as=>rw [wk];have:=h (L++[z]);simp;omega
  | go f as=>rw [wk];have:=h L;simp;omega
  | oth=>rw [wk];have:=h L;simp;omega
theorem rK {Fs:List FD}{ws:Ag}{F:FD}(ok:a7 (Fs.map FD.h) F) (P:aP Fs) (bits:Int):(bt Fs ws F bits).1.length<=100/\(bt Fs ws F bits).2.length<=100:=by
 have nl:=ok.nl
 have h1:=IL (Fs:=Fs) (ws:=ws) (nz:=F.nz) (F.ls.map li) (picks (bitAt bits) 0 F.ps)
 have h2:=(IA P (ks:=ws) (nz:=F.nz) ok.ln (picks (bitAt bits) 0 F.ps)).1
 have h3:(a4 F.ls).length<=F.ls.length:=jr (List.length_filterMap_le _ _) (by simp)
 rw [yM] at h1
 constructor
 ·exact jr h1 nl
 ·show (wk Fs ws F.nz _ _).2.length<=100
  rw [h2]
  omega
def Ve {Fs:List FD}(P:aP Fs) {ws:Ag}{p:Pr}(g:Gd Fs p):∃F∈Fs,F.nz=p.1/\0<=p.2/\a8 Fs ws p=dn Fs ws F p.2/\bI Fs ws p=cC Fs ws F p.2:=by
 obtain ⟨F,hF,e,h0,_⟩:=g
 have kY:Fs.find? (λG=>decide (G.nz=p.1))=some F:=by rw [<-e];exact rE P.nd hF
 refine ⟨F,hF,e,h0,?_,?_⟩
 ·unfold a8;rw [kY]
 ·unfold bI;rw [kY]
theorem Vf {Fs:List FD}(P:aP Fs) {ws:Ag}{fin:List Pr}(g:∀x∈fin,Gd Fs x) (h0:0<fin.length) (hl:fin.length<=100000) (s:ae):∃s1,Bd [.tup (fin.map (a8 Fs ws))] s=.ok (.bl true) s1/\Old s s1:=by
 obtain ⟨ys,s',C,hy,o⟩:=uf (fe:=(zu qZ (zd (zc 0) zm))) (env:=[some (.tup (fin.map (a8 Fs ws)))]) (fin.map (a8 Fs ws)) (λi ys s'=>ys=(List.replicate i true).map PV.bl/\Old s s') (λi x ys s' hx ⟨hy,o⟩=>by
  rw [yI] at hx
  obtain ⟨p,hp,rfl⟩:=Option.map_eq_some_iff.mp hx
  obtain ⟨F,hF,e,_,e1,_⟩:=Ve P (ws:=ws) (g p (jV hp))
  obtain ⟨l1,l2⟩:=rK (ws:=ws) (P.fn F hF) P p.2
  obtain ⟨s2,E,o2⟩:=Vd F.nz p.2 (bt Fs ws F p.2).1 (bt Fs ws F p.2).2 (by omega) (by omega) s'
  refine ⟨.bl true,s2,zD (zM (zf rfl)) (by rw [e1];exact E),?_,o.trans o2⟩
  rw [hy,List.replicate_succ',jA]
  rfl) fin.length 0 [] s (by simp) ⟨rfl,Old.refl _⟩
 rw [yM] at hy
 have D:(jD (yQ (zc 0)) (zu qZ (zd (zc 0) zm))) [some (.tup (fin.map (a8 Fs ws)))] s=.ok (.ref s'.length) (s'++[.lst ys]):=by
  rw [lH,j7,zf rfl,zJ]
  show (Res.ok (Sq.im (fin.map (a8 Fs ws))) s).bind _=_
  rw [zJ,lI,zF (by simp [lim];omega)]
  exact C
 refine ⟨s'++[.lst ys],yf rfl (yh (qK (zD (zX (zf rfl) rfl) (show je isT [.tup (fin.map (a8 Fs ws)),.ty "tuple"] s=.ok (.bl true) s from rfl)) (qK (zo (zD (zM (zf rfl)) (oK _)) rfl (lN true (by simp;omega) _)) (zD (zM D) (BW (k:=fin.length) (by rw [hy];exact yt _ _)))))),o.trans (yb _ _)⟩
inductive nB:Nat->PV->Prop
 | int (n:Nat) (i:Int):nB n (.int i)
 | str (n:Nat) (z:Str):nB n (.str z)
 | tup (n:Nat) (xs:An):(∀x∈xs,nB n x)->nB (n+1) (.tup xs)
theorem IM {n:Nat}:∀{xs:An},(∀x∈xs,Mi.plain x=true/\dep x<=n/\bz x x=true)->bK xs=true/\dk xs<=n/\d8 xs xs=true
 | [],_=>⟨rfl,by simp [dk],by rw [d8]⟩
 | x::xs,h=>by
  obtain ⟨a,b,c⟩:=h x (yO ..)
  obtain ⟨a',b',c'⟩:=IM λy hy=>h y (yX _ hy)
  exact ⟨by rw [bK,a,a'];rfl,by rw [dk];omega,by rw [d8,c,c'];rfl⟩
theorem IQ:∀{n:Nat}{x:PV},nB n x->Mi.plain x=true/\dep x<=n/\bz x x=true
 | n,_,.int _ i=>⟨rfl,by simp [dep],by simp [bz]⟩
 | n,_,.str _ z=>⟨rfl,by simp [dep],by simp [bz]⟩
 | n+1,_,.tup _ xs h=>by
  obtain ⟨a,b,c⟩:=IM (n:=n) λx hx=>IQ (h x hx)
  exact ⟨by rw [Mi.plain];exact a,by rw [dep];omega,by rw [bz];exact c⟩
theorem Vg {n:Nat}{x:PV}(h:nB n x) (hn:n<=100) (s:ae):jL x x s=.ok (.bl false) s:=by
 obtain ⟨a,b,c⟩:=IQ h
 unfold jL
 rw [zF ⟨a,a,by omega⟩,c]
 rfl
theorem Vh {Fs:List FD}{ks:Ag}(P:aP Fs) {i:Nat}{met fin:List Pr}(R:fq Fs ks i met fin):met.Nodup->(∀x∈met,Gd Fs x)->(∃t,fin=met++t)/\fin.Nodup/\(∀x∈fin,Gd Fs x)/\i<=fin.length:=by
 induction R with
 | done met=>intro nd g;exact ⟨⟨[],by simp⟩,nd,g,yk _⟩
 | step i met fin p hp _ ih =>
  intro nd g
  obtain ⟨⟨t,e⟩,a,b,c⟩:=ih (Iw nd) (λx hx=>(Iy hx).elim (g x) (IB P x))
  obtain ⟨t',e'⟩:=uO (l:=bI Fs ks p) (met:=met)
  exact ⟨⟨t'++t,by rw [e,e',wG]⟩,a,b,by omega⟩
def IU {L:Ad}{s:ae}{d:Nat}{z:Str}(h:s[d]?=some (.dic L (cg L))):yS true (.str z) (.ref d) s=.ok (.bl (!decide (z∈L))) s:=by
 have:=HQ (z:=z) (L:=L) (xs:=cg L) (by simp)
 simp [yS,h,this]
noncomputable def bn (L:Ad):Li->Option Str
 | .let_ z as=>if (as.any (aJ L)&&!decide (z∈L))=true then some "let" else none
 | .call z _ _=>if decide (z∈L)=true then none else some "call"
 | _=>none
noncomputable def BX:Option Str->PV
 | some w=>.str w
 | none=>.non
abbrev Ln (hs:List (Str×Nat)) (l:PV):Prop:=(∃k z,cJ hs k z l)\/∃k,dY hs k l
def Vi {o:Str}{n:Nat}(h:(o,n)∈wZ):n<=3:=(Bp _ h).2
theorem Vj {hs:List (Str×Nat)}{l:PV}(h:Ln hs l) {L:Ad}{d:Nat}{s:ae}(hd:s[d]?=some (.dic L (cg L))):∃s1,qR [l,.ref d] s=.ok (BX (bn L (li l))) s1/\Old s s1:=by
 have no:∀{w:Str} {r:An},w ≠ "let" -> w ≠ "call" -> qR [.tup (.str w::r),.ref d] s=.ok .non s:=λh1 h2=>yf rfl (zy (yu (iV (q0 rfl (dA h1 _)))) (zy (yu (iV (q0 rfl (dA h2 _)))) (yh rfl)))
 rcases h with ⟨k,z,h⟩|⟨k,h⟩
 ·cases h with
  | let_ o n as h1 h2 h3 =>
   rw [ig]
   have N:=uH h3 (by have:=Vi h1;omega) (L:=L) (s:=s) (d:=d) (.inl ⟨_,hd,by simp⟩)
   have ev:=HR (as.map (aJ L))
   have A:=Ih (z:=z) (hs:=hs) (.let_ o n as h1 h2 h3) s
   have T0:(mB (ze jL (zu kQ (zd (zu oQ (zd (zc 0) zm)) (zd (zc 1) zm))) (Ar 0))) [some (.tup [.str "let", .str z,.str o,.tup as]),At d] s=.ok (as.any (aJ L)) (s++[.lst ((as.map (aJ L)).map PV.bl)]) :=
    zW (zo (zD (zX (zD (zM (zf rfl)) A) (zf rfl)) N) rfl ((Ii _ _).trans (by rw [ev,List.any_map];rfl)))
   have ic:=yb s [.lst ((as.map (aJ L)).map PV.bl)] _ _ hd
   have T1:(mB (ze (yS true) (ze zt (zc 0) (Ar 1)) (zc 1))) [some (.tup [.str "let", .str z,.str o,.tup as]),At d] (s++[.lst ((as.map (aJ L)).map PV.bl)])=.ok (!decide (z∈L)) (s++[.lst ((as.map (aJ L)).map PV.bl)]) :=
    zW (zo (zo (zf rfl) rfl yZ) (zf rfl) (IU ic))
   refine ⟨_,?_,yb s [.lst ((as.map (aJ L)).map PV.bl)]⟩
   rw [show bn L (.let_ z as)=if (as.any (aJ L)&&!decide (z∈L))=true then some ("let" : Str) else none from rfl]
   cases ha:as.any (aJ L) with
   | false =>
    rw [ha] at T0
    rw [zR (by simp)]
    exact yf rfl (zy (yu (g9 (q0 rfl (eK _)) (iV T0))) (zy (yu (iV (q0 rfl (dA n1 _)))) (yh rfl)))
   | true =>
    rw [ha] at T0
    cases hz:(!decide (z∈L)) with
    | false =>
     rw [hz] at T1
     rw [zR (by simp)]
     exact yf rfl (zy (yu (g9 (q0 rfl (eK _)) (g9 T0 T1))) (zy (yu (iV (q0 rfl (dA n1 _)))) (yh rfl)))
    | true =>
     rw [hz] at T1
     rw [zF (by simp)]
     exact yf rfl (jf (yJ (g9 (q0 rfl (eK _)) (g9 T0 T1)) (yh rfl)))
  | call f as =>
   rw [ik]
   have T1:(mB (ze (yS true) (ze zt (zc 0) (Ar 1)) (zc 1))) [some (.tup [.str "call", .str z,.str f,.tup as]),At d] s=.ok (!decide (z∈L)) s :=
    zW (zo (zo (zf rfl) rfl yZ) (zf rfl) (IU hd))
   refine ⟨s,?_,Old.refl s⟩
   rw [show bn L (.call z f as)=if decide (z∈L)=true then none else some ("call" : Str) from rfl]
   cases hz:decide (z∈L) with
   | true =>
    rw [hz] at T1
    exact yf rfl (zy (yu (iV (q0 rfl (dA (ja n1) _)))) (zy (yu (g9 (q0 rfl (eK _)) T1)) (yh rfl)))
   | false =>
    rw [hz] at T1
    exact yf rfl (zy (yu (iV (q0 rfl (dA (ja n1) _)))) (jf (yJ (g9 (q0 rfl (eK _)) T1) (yh rfl))))
 ·refine ⟨s,?_,Old.refl s⟩
  cases h with
  | give x hx=>rw [show li (.tup [.str "give", x])=.oth by cases hx<;>rfl];exact no uo n3
  | fail w=>exact no Bj n5
  | if_ x v1 v2 hx=>rw [show li (.tup [.str "if", x,v1,v2])=.oth by cases hx<;>rfl];exact no G5 n8
  | go f as=>rw [iq];exact no uq n7
def i_ (ps:List Pr) (s:ae) (q:Nat):Prop:=∃ks,IsT ks s q/\∀k,k∈ks↔k∈ps.map cu
def i_.old {ps:List Pr}{s s':ae}{q:Nat}(h:i_ ps s q) (o:Old s s'):i_ ps s' q:=let ⟨ks,a,b⟩:=h;⟨ks,a.old o,b⟩
noncomputable def ba (L:Ad) (ps:List Pr) (f:Str) (as:An) (g:Int):Option Str:=if Builtin.bitOr (aL (as.map (aJ L))) g≠g then some "goal" else if (f,g)∈ps then none else some "form"
def Vk {ks:Ag}{ps:List Pr}(h:∀k,k∈ks↔k∈ps.map cu) (p:Pr):bj (cu p) ks=decide (p∈ps):=by
 rw [<-BM,Bool.eq_iff_iff]
 unfold bj
 simp only [List.any_eq_true,iE]
 exact ⟨λ⟨x,hx,e⟩=>⟨x,(h x).mp hx,e⟩,λ⟨x,hx,e⟩=>⟨x,(h x).mpr hx,e⟩⟩
def Vl (i j:Int) (st:ae):jL (.int i) (.int j) st=.ok (.bl (decide (i≠j))) st:=by rw [FF];simp
def Vm {f:Str}{as:An}{nk:Ad}(ha:∀a∈as,cm nk a) (hl:as.length<=1000) {L:Ad}{ps:List Pr}{d q:Nat}{s:ae}(hd:s[d]?=some (.dic L (cg L))) (hq:i_ ps s q) (g:Int) :
  ∃s1,qS [.tup [.str f,.tup as],.int g,.ref d,.ref q] s=.ok (BX (ba L ps f as g)) s1/\i_ ps s1 q/\bx q s s1/\s.length<=s1.length:=by
 have N:=uH ha hl (L:=L) (s:=s) (d:=d) (.inl ⟨_,hd,by simp⟩)
 have T0:(mB (ze jL (ze mH (zu kQ (zd (ze (aR zt) (zc 0) (Ar 1)) (zd (zc 2) zm))) (zc 1)) (zc 1))) [some (.tup [.str f,.tup as]),some (.int g),At d,At q] s=.ok (decide (Builtin.bitOr (aL (as.map (aJ L))) g≠g)) (s++[.lst ((as.map (aJ L)).map PV.bl)]) :=
  zW (zo (zo (zD (zX (zo (zf rfl) rfl uK) (zf rfl)) N) (zf rfl) rfl) (zf rfl) (Vl _ _ _))
 obtain ⟨ks,hT,hk⟩:=hq
 have o1:=yb s [.lst ((as.map (aJ L)).map PV.bl)]
 have rD:=hT.old o1
 have R:=uI (old:=yS true) (neg:=true) (k:=cu (f,g)) rD
 rw [Vk hk] at R
 unfold ba
 by_cases h:Builtin.bitOr (aL (as.map (aJ L))) g≠g
 ·rw [jJ h] at T0
  rw [zF h]
  exact ⟨_,yf rfl (jf (yJ T0 (yh rfl))),⟨ks,rD,hk⟩,o1.bar,by simp⟩
 ·rw [jC h] at T0
  rw [zR h]
  refine ⟨_,?_,⟨ks,lQ rD.lt,hk⟩,o1.bar.trans i9,by simp⟩
  by_cases hp:(f,g)∈ps
  ·rw [zF hp]
   rw [jJ hp] at R
   exact yf rfl (zy (yu T0) (zy (yu (zW (zo (ya (zX (zo (zf rfl) rfl lR) (zf rfl)) (by simp)) (zf rfl) R))) (yh rfl)))
  ·rw [zR hp]
   rw [jC hp] at R
   exact yf rfl (zy (yu T0) (jf (yJ (zW (zo (ya (zX (zo (zf rfl) rfl lR) (zf rfl)) (by simp)) (zf rfl) R)) (yh rfl))))
noncomputable def uT:Li->Str
 | .let_ z _=>z
 | .call z _ _=>z
 | _ => ""
noncomputable def dZ (L:Ad) (ps:List Pr) (gs:List Int):List Li->Nat->Option (Str×PV)
 | [],_=>none
 | l::r,i=>match bn L l with
  | some w=>some (w,.str (uT l))
  | none=>match aimL l with
   | none=>dZ L ps gs r i
   | some p=>match ba L ps p.1 p.2 (gs.getD i 0) with
    | some w=>some (w,.int i)
    | none=>dZ L ps gs r (i+1)
structure Fm where
 f:Str
 b:Int
 zs:Ad
 gs:List Int
noncomputable abbrev Fm.v (m:Fm):PV:=.tup [.str m.f,.int m.b,.tup (m.zs.map PV.str),.tup (m.gs.map PV.int)]
noncomputable abbrev Fm.p (m:Fm):Pr:=(m.f,m.b)
noncomputable abbrev Vn (a:Aj):Aj:=zZ (mB (ze jN (zc 6) (mC .non))) (zV (zE (zd (zc 6) (zd (ze zt (zc 1) (Ar 0)) (zd (ze zt (zc 1) (Ar 1)) (zd (zc 4) zm)))))) a
noncomputable abbrev IV:Aj:=(zZ (mB (ze jN (zc 7) (mC .non)))
  (zw (zG 6 (zu qS (zd (zc 7) (zd (ze zt (ze zt (zc 1) (Ar 3)) (zc 4)) (zd (zc 3) (zd (zc 2) zm))))))
  (zw (Vn ye)
  (oB 4 kG (Ar 1))))
  ye)
noncomputable abbrev BZ:Aj:=(zw (zG 6 (zu qR (zd (zc 5) (zd (zc 3) zm))))
  (zw (zZ (mB (ze jN (zc 6) (mC .non)))
  (zV (zE (zd (zc 6) (zd (ze zt (zc 1) (Ar 0)) (zd (ze zt (zc 1) (Ar 1)) (zd (ze zt (zc 5) (Ar 1)) zm))))))
  ye)
  (zw (zG 7 (zu wO (zd (zc 5) zm)))
  IV)))
noncomputable abbrev eN (fv mv:PV) (q d i:Nat) (z5 z6 z7:Ao):zj:=[some fv,some mv,At q,At d,Au i,z5,z6,z7]
theorem Vo {hs:List (Str×Nat)}(H:Hs hs) {l:PV}(h:Ln hs l) {f:Str}{as:An}(e:aimL (li l)=some (f,as)):as.length<=1000/\∃nk,∀a∈as,cm nk a:=by
 rcases h with ⟨k,z,h⟩|⟨k,h⟩
 ·cases h with
  | let_ o n as'=>rw [ig] at e;cases e
  | call f' as' h1 h2=>rw [ik] at e;cases e;exact ⟨by have:=H.few _ h1;simp at this;omega,k,h2⟩
 ·cases h with
  | give x hx=>rw [show li (.tup [.str "give", x])=.oth by cases hx<;>rfl] at e;cases e
  | fail w=>cases e
  | if_ x v1 v2 hx=>rw [show li (.tup [.str "if", x,v1,v2])=.oth by cases hx<;>rfl] at e;cases e
  | go f' as' h1 h2=>rw [iq] at e;cases e;exact ⟨by have:=H.few _ h1;simp at this;omega,k,h2⟩
def Vp {hs:List (Str×Nat)}{l:PV}(h:Ln hs l) {L:Ad}{w:Str}(e:bn L (li l)=some w) (s:ae):zt l (.int 1) s=.ok (.str (uT (li l))) s:=by
 rcases h with ⟨k,z,h⟩|⟨k,h⟩
 ·cases h with
  | let_ o n as=>rw [ig];exact yZ
  | call f as=>rw [ik];exact yZ
 ·cases h with
  | give x hx=>rw [show li (.tup [.str "give", x])=.oth by cases hx<;>rfl] at e;cases e
  | fail w=>cases e
  | if_ x v1 v2 hx=>rw [show li (.tup [.str "if", x,v1,v2])=.oth by cases hx<;>rfl] at e;cases e
  | go f' as' h1 h2=>rw [iq] at e;cases e
def Vq {gs:List Int}{i:Nat}(h:i<gs.length) (s:ae):zt (.tup (gs.map PV.int)) (.int (i:Int)) s=.ok (.int (gs.getD i 0)) s:=by
 show b_ (cY (gs.map PV.int) (i:Int)) s=_
 rw [aU (x:=PV.int (gs.getD i 0)) (by rw [yI,List.getD_eq_getElem?_getD,yB h];rfl)]
 rfl
theorem B6 {hs:List (Str×Nat)}(H:Hs hs) {L:Ad}{ps:List Pr}{fv:PV}{m:Fm}{q d:Nat}(dq:d≠q):∀(ls:An) (i:Nat) (s:ae) (z5 z6 z7:Ao),(∀l∈ls,Ln hs l)->i+((ls.map li).filterMap aimL).length<=m.gs.length->s[d]?=some (.dic L (cg L))->i_ ps s q ->
  ∃fl s1,forL (gN 5) BZ ls (eN fv m.v q d i z5 z6 z7) s=.ok fl s1/\(match dZ L ps m.gs (ls.map li) i with
   | none=>∃i' y5 y6 y7,fl=.nx (eN fv m.v q d i' y5 y6 y7)
   | some p=>fl=.rt (.tup [.str p.1,.str m.f,.int m.b,p.2]))/\i_ ps s1 q/\bx q s s1
 | [],i,s,z5,z6,z7,_,_,_,hq=>⟨_,s,rfl,⟨i,z5,z6,z7,rfl⟩,hq,bx.refl _ _⟩
 | l::ls,i,s,z5,z6,z7,hl,hi,hd,hq=>by
  have h:=hl l (yO ..)
  obtain ⟨s1,E1,o1⟩:=Vj h hd
  have ic:=o1 _ _ hd
  have fH:=hq.old o1
  rw [yo]
  rw [yo,List.filterMap_cons] at hi
  rw [show dZ L ps m.gs (li l::ls.map li) i=match bn L (li l) with
   | some w=>some (w,.str (uT (li l)))
   | none=>match aimL (li l) with
    | none=>dZ L ps m.gs (ls.map li) i
    | some p=>match ba L ps p.1 p.2 (m.gs.getD i 0) with
     | some w=>some (w,.int i)
     | none=>dZ L ps m.gs (ls.map li) (i+1) from rfl]
  cases hb:bn L (li l) with
  | some w =>
   rw [hb] at E1
   exact ⟨_,s1,uR rfl (zy (zN (zD (zX (zf rfl) (zf rfl)) E1)) (jf (yJ (zW (zo (zf rfl) rfl (iu _ _))) (yh (ya (jE (zf rfl) (zo (zf rfl) rfl yK) (zo (zf rfl) rfl yZ) (zo (zf rfl) rfl (Vp h hb _))) (by simp)))))),rfl,fH,o1.bar⟩
  | none =>
   rw [hb] at E1
   have E2:=Iu h s1
   have body:∀{X:Res Fl},IV (eN fv m.v q d i (some l) (some .non) (some (f_ (aimL (li l))))) s1=X->BZ (eN fv m.v q d i (some l) z6 z7) s=X:=λhX=>zy (zN (zD (zX (zf rfl) (zf rfl)) E1)) (zy (yu (zW (zo (zf rfl) rfl (iu _ _)))) (zy (zN (zD (zM (zf rfl)) E2)) hX))
   cases ha:aimL (li l) with
   | none =>
    rw [ha] at body hi
    obtain ⟨fl,s2,E3,r1,r2,r3⟩:=B6 H (L:=L) (ps:=ps) (fv:=fv) (m:=m) dq ls i s1 (some l) (some .non) (some .non) (λl' h'=>hl l' (yX _ h')) hi ic fH
    exact ⟨fl,s2,uS rfl (body (yu (zW (zo (zf rfl) rfl (iu _ _))))) E3,r1,r2,o1.bar.trans r3⟩
   | some p =>
    obtain ⟨f,as⟩:=p
    rw [ha] at body hi
    obtain ⟨al,nk,av⟩:=Vo H h ha
    have Vr:i<m.gs.length:=by simp only [jt] at hi;omega
    obtain ⟨s2,E4,gk,b2,_⟩:=Vm (f:=f) av al ic fH (m.gs.getD i 0)
    have hd2:=b2 _ _ dq ic
    have C:(zG 6 (zu qS (zd (zc 7) (zd (ze zt (ze zt (zc 1) (Ar 3)) (zc 4)) (zd (zc 3) (zd (zc 2) zm)))))) (eN fv m.v q d i (some l) (some .non) (some (.tup [.str f,.tup as]))) s1=.ok (.nx (eN fv m.v q d i (some l) (some (BX (ba L ps f as (m.gs.getD i 0)))) (some (.tup [.str f,.tup as])))) s2 :=
     zN (zD (jE (zf rfl) (zo (zo (zf rfl) rfl wC) (zf rfl) (Vq Vr _)) (zf rfl) (zf rfl)) E4)
    have N7:(mB (ze jN (zc 7) (mC .non))) (eN fv m.v q d i (some l) (some .non) (some (.tup [.str f,.tup as]))) s1=.ok true s1:=zW (zo (zf rfl) rfl (iu _ _))
    simp only
    cases hw:ba L ps f as (m.gs.getD i 0) with
    | some w =>
     rw [hw] at C
     exact ⟨_,s2,uR rfl (body (yJ N7 (zy C (jf (yJ (zW (zo (zf rfl) rfl (iu _ _))) (yh (ya (jE (zf rfl) (zo (zf rfl) rfl yK) (zo (zf rfl) rfl yZ) (zf rfl)) (by simp)))))))),rfl,gk,o1.bar.trans b2⟩
    | none =>
     rw [hw] at C
     obtain ⟨fl,s3,E5,r1,r2,r3⟩:=B6 H (L:=L) (ps:=ps) (fv:=fv) (m:=m) dq ls (i+1) s2 (some l) (some .non) (some (.tup [.str f,.tup as])) (λl' h'=>hl l' (yX _ h')) (by simp only [jt] at hi;omega) hd2 gk
     have AG:(oB 4 kG (Ar 1)) (eN fv m.v q d i (some l) (some .non) (some (.tup [.str f,.tup as]))) s2=.ok (.nx (eN fv m.v q d (i+1) (some l) (some .non) (some (.tup [.str f,.tup as])))) s2:=by
      rw [Py,zf (v:=.int (i:Int)) rfl,zJ]
      rfl
     exact ⟨fl,s3,uS rfl (body (yJ N7 (zy C (zy (yu (zW (zo (zf rfl) rfl (iu _ _)))) AG)))) E5,r1,r2,(o1.bar.trans b2).trans r3⟩
def IW {f:Ai}{gt:PV->zj->Option zj}{body:Aj}{e:zj}{s s1:ae}{xs:An}{X:Res Fl}(h:f e s=.ok (.tup xs) s1) (hX:forL gt body xs e s1=X):yU (yQ f) gt body e s=X:=by
 rw [gX,j7,h,zJ]
 show (Res.ok (Sq.im xs) s1).bind _=_
 rw [zJ]
 exact hX
def IY {f:Ai}{gt:PV->zj->Option zj}{body:Aj}{e:zj}{s s1:ae}{r:Nat}{xs:An}{X:Res Fl}(h:f e s=.ok (.ref r) s1) (hr:s1[r]?=some (.lst xs)) (hX:forR gt body r (lim+1) 0 e s1=X):yU (yQ f) gt body e s=X:=by
 rw [gX,j7,h,zJ,tE,yD hr,zJ]
 exact hX
theorem Vs {r:Nat}(ws:Ag) (hl:ws.length<=100000) {st:ae}(hr:st[r]?=some (.lst (ws.map aW))):∃ks s1,gn [.ref r] st=.ok (.ref st.length) s1/\IsT ks s1 st.length/\(∀k,k∈ks↔k∈ws)/\Old st s1:=by
 have rl:r≠st.length:=by have:=yv hr;omega
 obtain ⟨e',s1,F,⟨z2,he⟩,ks,hT,hm,hk,ob⟩:=uh (g:=gN 2) (body:=bM) (n:=r) (ws.map aW) (λi e s=>(∃z2,e=[At r,At st.length,z2])/\∃ks,IsT ks s st.length/\(∀k,k∈ks↔k∈ws.take i)/\ks.length<=i/\bx st.length (st++[.dic [] []]) s) (λi e s ⟨_,_,_,_,_,ob⟩=>ob _ _ rl (yb _ _ _ _ hr)) (λi x e s hx ⟨⟨z2,he⟩,ks,hT,hm,hk,ob⟩=>by
  subst he
  rw [yI] at hx
  obtain ⟨k,gY,rfl⟩:=Option.map_eq_some_iff.mp hx
  have hi:i<ws.length:=(yl.mp gY).1
  refine ⟨[At r,At st.length,some (aW k)],_,_,rfl,uJ rfl (zf rfl) (zf rfl) hT (by omega),⟨_,rfl⟩,cA ks k,lQ hT.lt,λx=>?_,by have:=HV ks k;omega,ob.trans i9⟩
  rw [HU,hm,kS gY,jG,jP]) ws.length 0 (lim+1) [At r,At st.length,none] (st++[.dic [] []]) (by simp) (by simp [lim];omega) ⟨⟨none,rfl⟩,[],by unfold IsT;rw [yt];rfl,by simp,yk _,bx.refl _ _⟩
 subst he
 rw [yM] at hm
 rw [List.take_length] at hm
 exact ⟨ks,s1,yf rfl (zy (zN rfl) (zy (IY (zf rfl) (yb _ _ _ _ hr) F) (yh (zf rfl)))),hT,hm,λm so e=>ob m so (by have:=yv e;omega) (yb _ _ _ _ e)⟩
structure GF (Fs:List FD) (m:Fm) (F:FD):Prop where
 mem:F∈Fs
 nz:F.nz=m.f
 b0:0<=m.b
 nd:(picks (bitAt m.b) 0 F.ps++m.zs).Nodup
 zl:m.zs.length<=200
 gl:(a4 F.ls).length<=m.gs.length
noncomputable abbrev eU (F:FD) (m:Fm):Ad:=picks (bitAt m.b) 0 F.ps++m.zs
noncomputable def eM (ps:List Pr) (F:FD) (m:Fm):Ao:=(dZ (eU F m) ps m.gs (F.ls.map li) 0).map λp=>.tup [.str p.1,.str m.f,.int m.b,p.2]
noncomputable def nU:Option PV->PV
 | some v=>v
 | none=>.non
theorem Vt {Fs:List FD}(P:aP Fs) {m:Fm}{F:FD}(g:GF Fs m F) {ps:List Pr}{q:Nat}{s:ae}(hq:i_ ps s q):∃s1,qT [F.v,m.v,.ref q] s=.ok (nU (eM ps F m)) s1/\i_ ps s1 q/\bx q s s1:=by
 have ok:=P.fn F g.mem
 obtain ⟨dd,oX,B⟩:=ok.bk
 have np:=ok.np
 have nl:=ok.nl
 have zl:=g.zl
 have pl:(picks (bitAt m.b) 0 F.ps).length<=F.ps.length:=Ir
 have E0:=HX (f:=.str F.nz) (ps:=F.ps) (r:=[F.bv]) m.b g.b0 (by omega) s
 let t1:=s++[SO.lst ((picks (bitAt m.b) 0 F.ps).map PV.str)]
 obtain ⟨s2,E2,hd,o2⟩:=HW (eU F m) g.nd (by simp [eU];omega) t1
 have ql:q<s.length:=let ⟨_,a,_⟩:=hq;a.lt
 have o:Old s s2:=(yb _ _).trans o2
 obtain ⟨fl,s3,E3,r1,r2,r3⟩:=B6 P.ok (L:=eU F m) (ps:=ps) (fv:=F.v) (m:=m) (q:=q) (d:=t1.length) (by simp [t1];omega) F.ls 0 s2 none none none (rH ok.ln) (by rw [Nat.zero_add];exact g.gl) hd (hq.old o)
 have A:zT (.tup ((picks (bitAt m.b) 0 F.ps).map PV.str)) (.tup (m.zs.map PV.str)) t1=.ok (.tup ((eU F m).map PV.str)) t1:=by
  rw [iZ (by simp only [yM];omega),<-jA]
 have E1:(zG 3 (zu gn (zd (ze zT (zu oP (zd (zc 0) (zd (ze zt (zc 1) (Ar 1)) zm))) (ze zt (zc 1) (Ar 2))) zm))) [some F.v,some m.v,At q,none,none,none,none,none] s=.ok (.nx [some F.v,some m.v,At q,At t1.length,none,none,none,none]) s2 :=
  zN (zD (zM (zo (zD (zX (zf rfl) (zo (zf rfl) rfl yZ)) E0) (zo (zf rfl) rfl jI) A)) E2)
 have FO:=IW (f:=zu (iX 12) (zd (ze zt (zc 0) (Ar 2)) zm)) (gt:=gN 5) (body:=BZ) (e:=eN F.v m.v q t1.length 0 none none none) (s:=s2) (s1:=s2) (zD (zM (zo (zf rfl) rfl jI)) (By 12 B (by omega) (by omega))) E3
 refine ⟨s3,?_,r2,o.bar.trans r3⟩
 unfold eM
 cases hb:dZ (eU F m) ps m.gs (F.ls.map li) 0 with
 | none =>
  rw [hb] at r1
  obtain ⟨i',y5,y6,y7,rfl⟩:=r1
  exact yf rfl (zy E1 (zy (zN rfl) (zy FO (yh rfl))))
 | some p =>
  rw [hb] at r1
  simp only at r1
  subst r1
  exact yf rfl (zy E1 (zy (zN rfl) (jf FO)))
noncomputable abbrev IZ:Aj:=(zw (zG 5 (zu qT (zd (ze zt (zc 2) (ze zt (zc 4) (Ar 0))) (zd (zc 4) (zd (zc 3) zm)))))
  (zZ (mB (ze jN (zc 5) (mC .non)))
  (zV (zc 5))
  ye))
noncomputable def brk (ps:List Pr):List (Fm×FD)->Ao
 | []=>none
 | x::r=>(eM ps x.2 x.1).or (brk ps r)
def Vu {Fs:List FD}(P:aP Fs) {F:FD}(h:F∈Fs):((Fs.map (·.nz)).zip (Fs.map FD.v)).lookup F.nz=some F.v:=by
 obtain ⟨j,hj,e⟩:=List.getElem_of_mem h
 have hF:Fs[j]?=some F:=by rw [yB hj,e]
 exact uE P.nd (j:=j) (by rw [yI,hF];rfl) (by rw [yI,hF];rfl)
theorem I_ {Fs:List FD}(P:aP Fs) {ps:List Pr}{x0 x1:Ao}{d q:Nat}(dq:d≠q):∀(ms:List (Fm×FD)) (s:ae) (z4 z5:Ao),(∀x∈ms,GF Fs x.1 x.2)->s[d]?=some (.dic (Fs.map (·.nz)) (Fs.map FD.v))->i_ ps s q ->
  ∃fl s1,forL (gN 4) IZ (ms.map λx=>x.1.v) [x0,x1,At d,At q,z4,z5] s=.ok fl s1/\(match brk ps ms with
   | none=>∃y4 y5,fl=.nx [x0,x1,At d,At q,y4,y5]
   | some v=>fl=.rt v)/\bx q s s1
 | [],s,z4,z5,_,_,_=>⟨_,s,rfl,⟨z4,z5,rfl⟩,bx.refl _ _⟩
 | x::ms,s,z4,z5,hg,hd,hq=>by
  have g:=hg x (yO ..)
  obtain ⟨s1,E1,fH,b1⟩:=Vt P g hq
  have ic:=b1 _ _ dq hd
  have I:zt (.ref d) (.str x.1.f) s=.ok x.2.v s:=BJ hd (by rw [<-g.nz];exact Vu P g.mem)
  have S:(zG 5 (zu qT (zd (ze zt (zc 2) (ze zt (zc 4) (Ar 0))) (zd (zc 4) (zd (zc 3) zm))))) [x0,x1,At d,At q,some x.1.v,z5] s=.ok (.nx [x0,x1,At d,At q,some x.1.v,some (nU (eM ps x.2 x.1))]) s1 :=
   zN (zD (yL (zo (zf rfl) (zo (zf rfl) rfl yK) I) (zf rfl) (zf rfl)) E1)
  rw [show brk ps (x::ms)=(eM ps x.2 x.1).or (brk ps ms) from rfl,yo]
  cases hb:eM ps x.2 x.1 with
  | some v =>
   rw [hb] at S
   have nn:dj v=false:=by
    unfold eM at hb
    obtain ⟨p,_,rfl⟩:=Option.map_eq_some_iff.mp hb
    rfl
   exact ⟨_,s1,uR rfl (zy S (yJ (zW (zo (zf rfl) rfl ((iu _ _).trans (by rw [show nU (some v)=v from rfl,nn];rfl)))) (yh (zf rfl)))),rfl,b1⟩
  | none =>
   rw [hb] at S
   obtain ⟨fl,s2,E2,r1,r2⟩:=I_ P (ps:=ps) (x0:=x0) (x1:=x1) dq ms s1 (some x.1.v) (some .non) (λy hy=>hg y (yX _ hy)) ic fH
   exact ⟨fl,s2,uS rfl (zy S (yu (zW (zo (zf rfl) rfl (iu _ _))))) E2,r1,b1.trans r2⟩
theorem Ja {Fs:List FD}(P:aP Fs) (ms:List (Fm×FD)) (hg:∀x∈ms,GF Fs x.1 x.2) (hl:ms.length<=90000) (st:ae):∃s1,iY [.tup (Fs.map FD.v),.tup (ms.map λx=>x.1.v)] st=.ok (nU (brk (ms.map λx=>x.1.p) ms)) s1/\Old st s1:=by
 obtain ⟨s1,E1,hd,o1⟩:=H9 P st
 let e0:zj:=[some (.tup (Fs.map FD.v)),some (.tup (ms.map λx=>x.1.v)),At st.length,none,none,none]
 have C:=oF (fe:=(zE (zd (ze zt (zc 0) (Ar 0)) (zd (ze zt (zc 0) (Ar 1)) zm)))) (env:=e0) (f:=λv=>match v with | .tup (a::b::_)=>.tup [a,b]|_=>.non) (st:=s1) (ms.map λx=>x.1.v) (λx hx=>by
  obtain ⟨p,hp,rfl⟩:=jd.mp hx
  exact ya (zX (zo (zf rfl) rfl yK) (zo (zf rfl) rfl yZ)) (by simp)) []
 have ec:([]:An)++(ms.map λx=>x.1.v).map (λv=>match v with | .tup (a::b::_)=>.tup [a,b]|_=>.non)=((ms.map λx=>x.1.p).map cu).map aW:=by
  rw [List.nil_append,List.map_map,List.map_map,List.map_map];rfl
 rw [ec] at C
 have D:(jD (yQ (zc 1)) (zE (zd (ze zt (zc 0) (Ar 0)) (zd (ze zt (zc 0) (Ar 1)) zm)))) e0 s1=.ok (.ref s1.length) (s1++[SO.lst (((ms.map λx=>x.1.p).map cu).map aW)]):=by
  rw [lH,j7,zf rfl,zJ]
  show (Res.ok (Sq.im (ms.map λx=>x.1.v)) s1).bind _=_
  rw [zJ,lI,zF (by simp [lim];omega)]
  exact C
 obtain ⟨ks,s3,E3,hT,hk,o3⟩:=Vs ((ms.map λx=>x.1.p).map cu) (by simp;omega) (yt s1 (SO.lst (((ms.map λx=>x.1.p).map cu).map aW)))
 have Jb:=(yb s1 [SO.lst (((ms.map λx=>x.1.p).map cu).map aW)]).trans o3
 have sl:=yv hd
 obtain ⟨fl,s4,E4,r1,r2⟩:=I_ P (ps:=ms.map λx=>x.1.p) (x0:=some (.tup (Fs.map FD.v))) (x1:=some (.tup (ms.map λx=>x.1.v))) (d:=st.length) (q:=(s1++[SO.lst (((ms.map λx=>x.1.p).map cu).map aW)]).length) (by simp;omega) ms s3 none none hg (Jb _ _ hd) ⟨ks,hT,hk⟩
 have FO:=IW (f:=zc 1) (gt:=gN 4) (body:=IZ) (e:=[some (.tup (Fs.map FD.v)),some (.tup (ms.map λx=>x.1.v)),At st.length,some (.ref (s1++[SO.lst (((ms.map λx=>x.1.p).map cu).map aW)]).length),none,none]) (s:=s3) (zf rfl) E4
 refine ⟨s4,?_,λk so e=>r2 k so (by have:=yv (o1 _ _ e);simp;omega) (Jb _ _ (o1 _ _ e))⟩
 cases hb:brk (ms.map λx=>x.1.p) ms with
 | none =>
  rw [hb] at r1
  obtain ⟨y4,y5,rfl⟩:=r1
  exact yf rfl (zy (zN (zD (zM (zf rfl)) E1)) (zy (zN (zD (zM D) E3)) (zy FO (yh rfl))))
 | some v =>
  rw [hb] at r1
  simp only at r1
  subst r1
  exact yf rfl (zy (zN (zD (zM (zf rfl)) E1)) (zy (zN (zD (zM D) E3)) (jf FO)))
noncomputable def grow (ws:Ag) (nz:Str) (L:Ad):Li->Ad
 | .let_ z as=>if (as.any (aJ L)||bj (pk nz z) ws)=true then [z] else []
 | .call z _ _=>[z]
 | _=>[]
def uU {Fs:List FD}{ws:Ag}{nz:Str}{L:Ad}{x:Li}{l:List Li}:(wk Fs ws nz L (x::l)).1=grow ws nz L x++(wk Fs ws nz (L++grow ws nz L x) l).1:=by
 cases x with
 | let_ z as =>
  rw [wk,show grow ws nz L (.let_ z as)=(if (as.any (aJ L)||bj (pk nz z) ws)=true then [z] else []) from rfl]
  split<;>simp
 | call z f as=>rw [wk];rfl
 | go f as=>rw [wk,show grow ws nz L (.go f as)=[] from rfl];simp
 | oth=>rw [wk,show grow ws nz L .oth=[] from rfl];simp
def vq (nk:Ad) (z:Str):Li->Prop
 | .let_ z' as=>z'=z/\∀a∈as,cm nk a
 | .call z' _ as=>z'=z/\∀a∈as,cm nk a
 | _=>False
def uV {hs:List (Str×Nat)}{nk:Ad}{z:Str}{v:PV}(h:cJ hs nk z v):vq nk z (li v):=by
 cases h with
 | let_ o n as _ _ h=>rw [ig];exact ⟨rfl,h⟩
 | call f as _ h=>rw [ik];exact ⟨rfl,h⟩
def vt:Li->Prop
 | .let_ _ _=>False
 | .call _ _ _=>False
 | _=>True
def uW {hs:List (Str×Nat)}{nk:Ad}{v:PV}(h:dY hs nk v):vt (li v):=by
 cases h with
 | give x hx=>rw [show li (.tup [.str "give", x])=.oth by cases hx<;>rfl];trivial
 | fail w=>trivial
 | if_ x v1 v2 hx=>rw [show li (.tup [.str "if", x,v1,v2])=.oth by cases hx<;>rfl];trivial
 | go f as=>rw [iq];trivial
def Jc {ws:Ag}{nz:Str}{L:Ad}{x:Li}(h:vt x):grow ws nz L x=[]:=by
 cases x with
 | let_=>cases h
 | call=>cases h
 | go=>rfl
 | oth=>rfl
def Jd {ws:Ag}{nz:Str}{L nk:Ad}{z:Str}{x:Li}(h:vq nk z x):(grow ws nz L x).Sublist [z]:=by
 cases x with
 | let_ z' as =>
  obtain ⟨rfl,_⟩:=h
  rw [show grow ws nz L (.let_ z' as)=(if (as.any (aJ L)||bj (pk nz z') ws)=true then [z'] else []) from rfl]
  split
  ·exact .refl _
  ·simp
 | call z' f as=>obtain ⟨rfl,_⟩:=h;exact .refl _
 | go=>cases h
 | oth=>cases h
def B7 {Fs:List FD}{ks:Ag}{nz:Str}{hs:List (Str×Nat)}{nk:Ad}{ls:An}{zs:Ad}(h:cb hs nk ls zs):∀(L:Ad),(wk Fs ks nz L (ls.map li)).1.Sublist zs:=by
 induction h with
 | nil=>intro L;simp [wk]
 | stp nk z v ls zs hv _ ih =>
  intro L
  rw [yo,uU]
  exact (Jd (uV hv)).append (ih _)
 | fin nk e ls zs he _ ih =>
  intro L
  rw [yo,uU,Jc (uW he)]
  exact ih _
def rL (ks:Ag) (nz:Str) (M:Ad):Li->Prop
 | .let_ z as=>z∈M↔(as.any (aJ M)||bj (pk nz z) ks)=true
 | .call z _ _=>z∈M
 | _=>True
def Vv {nk:Ad}{as:An}(ha:∀a∈as,cm nk a) {L T:Ad}(hT:∀z∈T,z∉nk):as.any (aJ (L++T))=as.any (aJ L):=by
 rw [<-Bool.not_inj_iff]
 rw [Bool.not_inj_iff,Bool.eq_iff_iff]
 simp only [List.any_eq_true]
 exact ⟨λ⟨a,h1,h2⟩=>⟨a,h1,by rw [<-BP (ha a h1) hT];exact h2⟩,λ⟨a,h1,h2⟩=>⟨a,h1,by rw [BP (ha a h1) hT];exact h2⟩⟩
def Vw {Fs:List FD}{ks:Ag}{nz:Str}{hs:List (Str×Nat)}{nk:Ad}{ls:An}{zs:Ad}(h:cb hs nk ls zs):∀(L:Ad),(∀z∈L,z∈nk)->(nk++zs).Nodup->∀l∈ls,rL ks nz (L++(wk Fs ks nz L (ls.map li)).1) (li l):=by
 induction h with
 | nil=>intro L _ _ l hl;cases hl
 | stp nk z v ls zs hv cq ih =>
  intro L hL nd l hl
  rw [yo,uU]
  have ok:=uV hv
  have fX:((nk++[z])++zs).Nodup:=by simpa using nd
  have hg:=(Jd (ws:=ks) (nz:=nz) (L:=L) ok)
  have hG:∀y∈grow ks nz L (li v),y=z:=λy hy=>jP.mp (hg.subset hy)
  have Vx:∀y∈L++grow ks nz L (li v),y∈nk++[z]:=λy hy=>by
   rcases jG.mp hy with q|q
   ·exact wF _ (hL y q)
   ·rw [hG y q];simp
  rw [<-wG]
  rcases yz.mp hl with q|q
  ·subst q
   have zn:z∉nk/\z∉zs:=by
    have:=List.nodup_append.mp nd
    exact ⟨λhz=>this.2.2 z hz z (yO ..) rfl,λhz=>(jB.mp this.2.1).1 hz⟩
   have T:=B7 (Fs:=Fs) (ks:=ks) (nz:=nz) cq (L++grow ks nz L (li l))
   have hT:∀y∈grow ks nz L (li l)++(wk Fs ks nz (L++grow ks nz L (li l)) (ls.map li)).1,y∉nk:=λy hy hn=>by
    rcases jG.mp hy with q|q
    ·rw [hG y q] at hn;exact zn.1 hn
    ·exact (List.nodup_append.mp nd).2.2 y hn y (yX _ (T.subset q)) rfl
   cases hx:li l with
   | let_ z' as =>
    rw [hx] at ok hT hG T
    obtain ⟨rfl,ha⟩:=ok
    show _↔_
    rw [wG,Vv ha hT]
    rw [show grow ks nz L (.let_ z' as)=(if (as.any (aJ L)||bj (pk nz z') ks)=true then [z'] else []) from rfl] at T ⊢
    by_cases hc:(as.any (aJ L)||bj (pk nz z') ks)=true
    ·rw [zF hc];exact ⟨λ_=>hc,λ_=>by simp⟩
    ·rw [zR hc] at T ⊢
     refine ⟨λhm=>absurd ?_ (λh:False=>h),λh=>absurd h hc⟩
     rcases jG.mp hm with q|q
     ·exact zn.1 (hL _ q)
     ·exact zn.2 (T.subset (by simpa using q))
   | call z' f as =>
    rw [hx] at ok
    obtain ⟨rfl,_⟩:=ok
    show z'∈_
    simp [grow]
   | go=>trivial
   | oth=>trivial
  ·exact ih _ Vx fX l q
 | fin nk e ls zs he _ ih =>
  intro L hL nd l hl
  rw [yo,uU,Jc (uW he)]
  rcases yz.mp hl with q|q
  ·subst q
   have:=uW he
   cases hx:li l with
   | let_=>rw [hx] at this;cases this
   | call=>rw [hx] at this;cases this
   | go=>trivial
   | oth=>trivial
  ·simpa using ih L hL nd l q
def lT (L:Ad) (ps:List Pr) (gs:List Int):List Li->Nat->Prop
 | [],_=>True
 | l::r,i=>bn L l=none/\match aimL l with
  | none=>lT L ps gs r i
  | some p=>ba L ps p.1 p.2 (gs.getD i 0)=none/\lT L ps gs r (i+1)
theorem rM {L:Ad}{ps:List Pr}{gs:List Int}{b:List Li}:∀(a:List Li) (i:Nat),lT L ps gs a i->dZ L ps gs (a++b) i=dZ L ps gs b (i+(a.filterMap aimL).length)
 | [],i,_=>rfl
 | l::r,i,h=>by
  obtain ⟨h1,h2⟩:=h
  rw [List.cons_append,dZ,h1]
  simp only
  cases ha:aimL l with
  | none=>rw [ha] at h2;simp only;rw [rM r i h2,List.filterMap_cons,ha]
  | some p =>
   rw [ha] at h2
   simp only
   rw [h2.1]
   simp only
   rw [rM r (i+1) h2.2,List.filterMap_cons,ha,jt]
   congr 1
   omega
theorem B8 {L:Ad}{ps:List Pr}{gs:List Int}:∀(a:List Li) (i:Nat),(∀l∈a,bn L l=none)->(∀(j:Nat) p,(a.filterMap aimL)[j]?=some p->ba L ps p.1 p.2 (gs.getD (i+j) 0)=none)->lT L ps gs a i
 | [],i,_,_=>trivial
 | l::r,i,h,h'=>by
  refine ⟨h l (yO ..),?_⟩
  have hr:=λl' (m:l'∈r)=>h l' (yX _ m)
  rw [List.filterMap_cons] at h'
  cases ha:aimL l with
  | none=>rw [ha] at h';exact B8 r i hr h'
  | some p =>
   rw [ha] at h'
   refine ⟨h' 0 p rfl,B8 r (i+1) hr λj q hq=>?_⟩
   have:=h' (j+1) q hq
   rwa [show i+(j+1)=i+1+j by omega] at this
theorem Je {f f':PV->Bool}:∀(as:An) (c:List Bool),as.length=c.length->(∀a∈as,f' a=true->f a=true)->cW (as.map f') (cW (as.map f) c)=cW (as.map f) c
 | [],[],_,_=>rfl
 | [],_::_,h,_=>by simp at h
 | _::_,[],h,_=>by simp at h
 | a::as,x::c,h,hf=>by
  have ih:=Je as c (by simpa using h) λb hb=>hf b (yX _ hb)
  have h1:=hf a (yO ..)
  show ((f' a||(f a||x))::cW (as.map f') (cW (as.map f) c))=(f a||x)::cW (as.map f) c
  rw [ih]
  cases e:f' a with
  | false=>rfl
  | true=>rw [h1 e];rfl
theorem Vy {Fs:List FD}(P:aP Fs) {ks:Ag}{L L':Ad}{ps:List Pr}{f:Str}{as:An}(hf:(f,as.length)∈Fs.map FD.h) (h:∀a∈as,aJ L' a=true->aJ L a=true) (hp:(f,gl Fs ks L f as)∈ps):ba L' ps f as (gl Fs ks L f as)=none:=by
 obtain ⟨F,hF,rfl,hl⟩:=rF hf
 unfold ba
 rw [zF hp,zR]
 rw [uM P hF]
 have l1:(cW (as.map (aJ L)) (F.ps.map λp=>bj (pk F.nz p) ks)).length=as.length:=by rw [BK (by simp;omega)];simp;omega
 unfold dm
 rw [BG (by rw [l1];simp),Je as _ (by simp;omega) h]
 simp
def Jf {L M:Ad}(hs:∀z∈L,z∈M) (v:PV) (h:aJ L v=true):aJ M v=true:=by
 unfold aJ at h ⊢
 split at h
 ·simp only [w9,iE] at h ⊢
  exact ⟨h.1,hs _ h.2⟩
 ·cases h
def Vz {L M:Ad}(hs:∀z∈L,z∈M) {as:An}(h:as.any (aJ L)=true):as.any (aJ M)=true:=by
 obtain ⟨a,h1,h2⟩:=List.any_eq_true.mp h
 exact List.any_eq_true.mpr ⟨a,h1,Jf hs a h2⟩
def VA {hs:List (Str×Nat)}{l:PV}(h:Ln hs l) {p:Str×List PV}(e:aimL (li l)=some p):(p.1,p.2.length)∈hs:=by
 rcases h with ⟨k,z,h⟩|⟨k,h⟩
 ·cases h with
  | let_ o n as'=>rw [ig] at e;cases e
  | call f' as' h1 h2=>rw [ik] at e;cases e;exact h1
 ·cases h with
  | give x hx=>rw [show li (.tup [.str "give", x])=.oth by cases hx<;>rfl] at e;cases e
  | fail w=>cases e
  | if_ x v1 v2 hx=>rw [show li (.tup [.str "if", x,v1,v2])=.oth by cases hx<;>rfl] at e;cases e
  | go f' as' h1 h2=>rw [iq] at e;cases e;exact h1
noncomputable abbrev gu (Fs:List FD) (ks:Ag) (F:FD) (b:Int):Fm:=⟨F.nz,b,(bt Fs ks F b).1,(bt Fs ks F b).2⟩
noncomputable abbrev dW (Fs:List FD) (ks:Ag) (F:FD) (b:Int):Ad:=eU F (gu Fs ks F b)
section
variable {Fs:List FD}{ks:Ag}{F:FD}{b:Int}{ps:List Pr}
def Jg (P:aP Fs) (hF:F∈Fs):(dW Fs ks F b).Nodup:=(P.fn F hF).nd.sublist (nr.append (B7 (P.fn F hF).ln _))
def uX (P:aP Fs) (hF:F∈Fs):∀l∈F.ls,rL ks F.nz (dW Fs ks F b) (li l):=Vw (P.fn F hF).ln _ (λ_ h=>nr.subset h) (P.fn F hF).nd
def B9 (P:aP Fs) (hF:F∈Fs):(bt Fs ks F b).2=(a4 F.ls).map λp=>gl Fs ks (dW Fs ks F b) p.1 p.2:=U6 (P.fn F hF).ln _ (P.fn F hF).nd
def Jh (P:aP Fs) (hF:F∈Fs) {j:Nat}{p:Str×List PV}(h:(a4 F.ls)[j]?=some p):(bt Fs ks F b).2[j]?=some (gl Fs ks (dW Fs ks F b) p.1 p.2):=by rw [B9 P hF,yI,h];rfl
def Ji (P:aP Fs) (hF:F∈Fs) {p:Str×List PV}(h:p∈a4 F.ls):(p.1,p.2.length)∈Fs.map FD.h:=by
 obtain ⟨x,hx,e⟩:=List.mem_filterMap.mp h
 obtain ⟨l,hl,rfl⟩:=jd.mp hx
 exact VA (rH (P.fn F hF).ln l hl) e
def B_ (P:aP Fs) (hF:F∈Fs) (hp:∀x∈cC Fs ks F b,x∈ps) {L':Ad}(hL:∀z∈L',z∈dW Fs ks F b) {gs':List Int}{pre rest:List Li}(e:F.ls.map li=pre++rest) (hg:∀j,j<(pre.filterMap aimL).length->gs'.getD j 0=(bt Fs ks F b).2.getD j 0) (hb:∀l∈pre,bn L' l=none):lT L' ps gs' pre 0 :=
 B8 pre 0 hb λj p hj=>by
  have jl:=(yl.mp hj).1
  have ha:(a4 F.ls)[j]?=some p:=by
   unfold a4
   rw [e,List.filterMap_append,wQ jl,hj]
  have g:=Jh P hF (ks:=ks) (b:=b) ha
  rw [Nat.zero_add,hg j jl,List.getD_eq_getElem?_getD,g,Option.getD_some]
  refine Vy P (Ji P hF (jV ha)) (λa _ h=>Jf hL a h) (hp _ (jV (i:=j) ?_))
  rw [List.getElem?_zip_eq_some]
  exact ⟨by rw [yI,ha];rfl,g⟩
def Jj {nz:Str}{L:Ad}{x:Li}(h:rL ks nz L x):bn L x=none:=by
 cases x with
 | let_ z as =>
  rw [show bn L (.let_ z as)=if (as.any (aJ L)&&!decide (z∈L))=true then some ("let" : Str) else none from rfl,zR]
  intro hc
  simp only [w9,Bool.not_eq_true',decide_eq_false_iff_not] at hc
  exact hc.2 (h.mpr (by rw [hc.1];rfl))
 | call z f as=>exact zF (jJ (show z∈L from h))
 | go=>rfl
 | oth=>rfl
def VB (P:aP Fs) (hF:F∈Fs) (hp:∀x∈cC Fs ks F b,x∈ps):eM ps F (gu Fs ks F b)=none:=by
 have:=rM (b:=[]) _ 0 (B_ P hF hp (L':=dW Fs ks F b) (λ_ h=>h) (gs':=(bt Fs ks F b).2) (rest:=[]) (List.append_nil _).symm (λ_ _=>rfl) λl hl=>by
  obtain ⟨v,hv,rfl⟩:=jd.mp hl
  exact Jj (uX P hF v hv))
 rw [List.append_nil] at this
 unfold eM
 rw [show dZ (eU F (gu Fs ks F b)) ps (gu Fs ks F b).gs (F.ls.map li) 0=none from this]
 rfl
def cK (z:Str):Li->Prop
 | .let_ z' _=>z'=z
 | .call z' _ _=>z'=z
 | _=>False
def VC {hs:List (Str×Nat)}{nk:Ad}{ls:An}{zs:Ad}(h:cb hs nk ls zs):(nk++zs).Nodup->∀{z:Str},(z∉zs->∀l∈ls,¬cK z (li l))/\(z∈zs->∃pre l post nC,ls=pre++l::post/\cJ hs nC z l/\z∉nC/\(∀l'∈pre,¬cK z (li l'))/\∀l'∈post,¬cK z (li l')):=by
 induction h with
 | nil=>intro _ z;exact ⟨(λ_ l h=>nomatch h),(λh=>nomatch h)⟩
 | stp nk y v ls zs hv cq ih =>
  intro nd z
  have fX:((nk++[y])++zs).Nodup:=by simpa using nd
  have yn:y∉nk/\y∉zs:=by
   have:=List.nodup_append.mp nd
   exact ⟨λhz=>this.2.2 y hz y (yO ..) rfl,λhz=>(jB.mp this.2.1).1 hz⟩
  have ny:∀z,cK z (li v)->z=y:=λz hn=>by
   have:=uV hv
   cases hx:li v with
   | let_ z' as=>rw [hx] at this hn;exact hn.symm.trans this.1
   | call z' f as=>rw [hx] at this hn;exact hn.symm.trans this.1
   | go=>rw [hx] at hn;cases hn
   | oth=>rw [hx] at hn;cases hn
  obtain ⟨i1,i2⟩:=ih fX (z:=z)
  refine ⟨λhz l hl hn=>?_,λhz=>?_⟩
  ·rcases yz.mp hl with q|q
   ·rw [q] at hn;exact hz (by rw [ny z hn];exact yO ..)
   ·exact i1 (λm=>hz (yX _ m)) l q hn
  ·by_cases e:z=y
   ·subst e
    exact ⟨[],v,ls,nk,rfl,hv,yn.1,(λ_ h=>nomatch h),i1 yn.2⟩
   ·obtain ⟨pre,l,post,nC,e1,h1,h2,h3,h4⟩:=i2 ((yz.mp hz).resolve_left e)
    refine ⟨v::pre,l,post,nC,by rw [e1];rfl,h1,h2,λl' pD hn=>?_,h4⟩
    rcases yz.mp pD with q|q
    ·rw [q] at hn;exact e (ny z hn)
    ·exact h3 l' q hn
 | fin nk x ls zs he cq ih =>
  intro nd z
  have nx:¬cK z (li x):=λhn=>by
   have:=uW he
   cases hx:li x with
   | let_ z' as=>rw [hx] at this;cases this
   | call z' f as=>rw [hx] at this;cases this
   | go=>rw [hx] at hn;cases hn
   | oth=>rw [hx] at hn;cases hn
  obtain ⟨i1,i2⟩:=ih nd (z:=z)
  refine ⟨λhz l hl hn=>?_,λhz=>?_⟩
  ·rcases yz.mp hl with q|q
   ·rw [q] at hn;exact nx hn
   ·exact i1 hz l q hn
  ·obtain ⟨pre,l,post,nC,e1,h1,h2,h3,h4⟩:=i2 hz
   refine ⟨x::pre,l,post,nC,by rw [e1];rfl,h1,h2,λl' pD hn=>?_,h4⟩
   rcases yz.mp pD with q|q
   ·rw [q] at hn;exact nx hn
   ·exact h3 l' q hn
noncomputable def isCall:Li->Bool
 | .call _ _ _=>true
 | _=>false
noncomputable abbrev rN (x:Li):Str:=if isCall x=true then "call" else "let"
def VD (P:aP Fs) (hF:F∈Fs) (hp:∀x∈cC Fs [] F b,x∈ps) {j:Nat}{z:Str}(hz:(bt Fs [] F b).1[j]?=some z) :
  ∃pre l post,F.ls=pre++l::post/\cK z (li l)/\(∀l'∈pre,¬cK z (li l'))/\(∀l'∈post,¬cK z (li l'))/\eM ps F ⟨F.nz,b,(bt Fs [] F b).1.take j++(bt Fs [] F b).1.drop (j+1),(bt Fs [] F b).2⟩=some (.tup [.str (rN (li l)),.str F.nz,.int b,.str z]):=by
 have ok:=P.fn F hF
 have nd:=Jg (ks:=[]) (b:=b) P hF
 let T:=(bt Fs [] F b).1
 have hT:T=T.take j++z::T.drop (j+1):=by
  have hj:=(yl.mp hz).1
  have he:=(yl.mp hz).2
  conv=>lhs;rw [<-List.take_append_drop j T,j8 hj,he]
 let L0:=picks (bitAt b) 0 F.ps
 let L':=L0++(T.take j++T.drop (j+1))
 have Bs:(L0++(T.take j++z::T.drop (j+1))).Nodup:=by rw [<-hT];exact nd
 have mL:∀y,y∈dW Fs [] F b↔y∈L'\/y=z:=λy=>by
  show y∈L0++T↔_
  rw [hT]
  simp only [L',jG,yz]
  constructor
  ·rintro (h|h|h|h)<;>simp [h]
  ·rintro ((h|h|h)|h)<;>simp [h]
 have zL:z∉L':=by
  have:(z::L').Nodup:=(List.Perm.nodup_iff (by
   show (L0++(T.take j++z::T.drop (j+1))).Perm (z::(L0++(T.take j++T.drop (j+1))))
   rw [<-wG,<-wG]
   exact List.perm_middle)).mp Bs
  exact (jB.mp this).1
 have VE:z∈F.zs:=(B7 ok.ln _).subset (jV hz)
 obtain ⟨pre,l,post,nC,e,hv,zn,h1,h2⟩:=(VC ok.ln ok.nd (z:=z)).2 VE
 have lo:=uV hv
 have lm:l∈F.ls:=by rw [e];simp
 have nm:=uX (ks:=[]) (b:=b) P hF l lm
 have hn:cK z (li l):=by
  cases hx:li l with
  | let_ z' as=>rw [hx] at lo;exact lo.1
  | call z' f as=>rw [hx] at lo;exact lo.1
  | go=>rw [hx] at lo;cases lo
  | oth=>rw [hx] at lo;cases lo
 refine ⟨pre,l,post,e,hn,h1,h2,?_⟩
 have em:F.ls.map li=pre.map li++(li l::post.map li):=by rw [e,jA];rfl
 have fi:=B_ P hF hp (L':=L') (λy hy=>(mL y).mpr (.inl hy)) (gs':=(bt Fs [] F b).2) em (λ_ _=>rfl) λx hx=>by
  obtain ⟨v,hv,rfl⟩:=jd.mp hx
  have nv:=uX (ks:=[]) (b:=b) P hF v (by rw [e];simp [hv])
  have hh:=h1 v hv
  cases hx:li v with
  | let_ z' as =>
   rw [hx] at nv hh
   have kx:z'≠z:=hh
   rw [show bn L' (.let_ z' as)=if (as.any (aJ L')&&!decide (z'∈L'))=true then some ("let" : Str) else none from rfl,zR]
   intro hc
   simp only [w9,Bool.not_eq_true',decide_eq_false_iff_not] at hc
   refine hc.2 (((mL z').mp (nv.mpr ?_)).resolve_right kx)
   rw [Vz (λy hy=>(mL y).mpr (.inl hy)) hc.1]
   rfl
  | call z' f as =>
   rw [hx] at nv hh
   have kx:z'≠z:=hh
   exact zF (jJ (((mL z').mp nv).resolve_right kx))
  | go=>rfl
  | oth=>rfl
 have bl:bn L' (li l)=some (rN (li l)):=by
  cases hx:li l with
  | let_ z' as =>
   rw [hx] at lo nm
   obtain ⟨rfl,ha⟩:=lo
   have h:=nm.mp ((mL z').mpr (.inr rfl))
   rw [show bj (pk F.nz z') []=false from rfl,Bool.or_false] at h
   obtain ⟨a,h3,h4⟩:=List.any_eq_true.mp h
   have:aJ L' a=true:=by
    have av:=ha a h3
    cases av with
    | of y hy =>
     rw [uF] at h4 ⊢
     exact jJ (((mL y).mp (of_decide_eq_true h4)).resolve_right λq=>zn (q▸hy))
    | is v=>rw [uG] at h4;cases h4
   rw [show bn L' (.let_ z' as)=if (as.any (aJ L')&&!decide (z'∈L'))=true then some ("let" : Str) else none from rfl,zF]
   ·rfl
   ·rw [List.any_eq_true.mpr ⟨a,h3,this⟩,jC zL];rfl
  | call z' f as =>
   rw [hx] at lo
   obtain ⟨rfl,_⟩:=lo
   exact zR (by rw [jC zL];simp)
  | go=>rw [hx] at lo;cases lo
  | oth=>rw [hx] at lo;cases lo
 have VF:uT (li l)=z:=by
  cases hx:li l with
  | let_ z' as=>rw [hx] at lo;exact lo.1
  | call z' f as=>rw [hx] at lo;exact lo.1
  | go=>rw [hx] at lo;cases lo
  | oth=>rw [hx] at lo;cases lo
 have W:dZ L' ps (bt Fs [] F b).2 (F.ls.map li) 0=some (rN (li l),.str z):=by
  rw [em,rM _ 0 fi,dZ,bl,VF]
 unfold eM
 rw [show dZ (eU F ⟨F.nz,b,(bt Fs [] F b).1.take j++(bt Fs [] F b).1.drop (j+1),(bt Fs [] F b).2⟩) ps (bt Fs [] F b).2 (F.ls.map li) 0=_ from W]
 rfl
end
theorem Jk:∀{a c:List Bool},a.length=c.length->(∀x∈c,x=false)->cW a c=a
 | [],[],_,_=>rfl
 | [],_::_,h,_=>by simp at h
 | _::_,[],h,_=>by simp at h
 | x::a,y::c,h,hc=>by
  rw [show cW (x::a) (y::c)=(x||y)::cW a c from rfl,Jk (by simpa using h) λz hz=>hc z (yX _ hz),hc y (yO ..),Bool.or_false]
theorem Jl:∀(l:List Bool) (i:Nat),bitAt (aL l) i=true->aL l-2 ^ i=aL (l.set i false)/\cW l (l.set i false)=l
 | [],i,h=>by
  simp only [bitAt,aL,iE] at h
  simp at h
 | b::r,0,h=>by
  simp only [bitAt,aL,iE,Int.pow_zero,Int.ediv_one] at h
  have hb:b=true:=by
   cases b
   ·simp at h
   ·rfl
  subst hb
  have zz:∀l:List Bool,cW l l=l:=λl=>by induction l with|nil=>rfl|cons x l ih=>simp [cW,ih]
  exact ⟨by simp [aL];omega,by simp [cW,zz]⟩
 | b::r,i+1,h=>by
  have e:aL (b::r)/2 ^ (i+1)=aL r/2 ^ i:=by
   rw [Int.pow_succ',<-Int.ediv_ediv_of_nonneg (by decide)]
   congr 1
   rw [aL]
   split<;>omega
  have h':bitAt (aL r) i=true:=by unfold bitAt at h ⊢;rw [e] at h;exact h
  obtain ⟨h1,h2⟩:=Jl r i h'
  refine ⟨?_,?_⟩
  ·rw [List.set_cons_succ,aL,aL,<-h1,Int.pow_succ]
   omega
  ·rw [List.set_cons_succ,show cW (b::r) (b::r.set i false)=(b||b)::cW r (r.set i false) from rfl,h2,Bool.or_self]
theorem Ca:∀(l:List Li) {j:Nat}{p:Str×List PV},(l.filterMap aimL)[j]?=some p->∃pre x post,l=pre++x::post/\aimL x=some p/\(pre.filterMap aimL).length=j
 | [],j,p,h=>by simp at h
 | x::l,j,p,h=>by
  rw [List.filterMap_cons] at h
  cases ha:aimL x with
  | none =>
   rw [ha] at h
   obtain ⟨pre,y,post,e,h1,h2⟩:=Ca l h
   exact ⟨x::pre,y,post,by rw [e];rfl,h1,by rw [List.filterMap_cons,ha];exact h2⟩
  | some q =>
   rw [ha] at h
   cases j with
   | zero=>cases h;exact ⟨[],x,l,rfl,ha,rfl⟩
   | succ j =>
    obtain ⟨pre,y,post,e,h1,h2⟩:=Ca l (j:=j) h
    exact ⟨x::pre,y,post,by rw [e];rfl,h1,by rw [List.filterMap_cons,ha,jt,h2]⟩
section
variable {Fs:List FD}{ks:Ag}{F:FD}{b:Int}{ps:List Pr}
theorem VG (P:aP Fs) (hF:F∈Fs) (hp:∀x∈cC Fs [] F b,x∈ps) {j i:Nat}{g:Int}(hg:(bt Fs [] F b).2[j]?=some g) (hi:bitAt g i=true) :
  eM ps F ⟨F.nz,b,(bt Fs [] F b).1,(bt Fs [] F b).2.take j++(g-2 ^ i)::(bt Fs [] F b).2.drop (j+1)⟩=some (.tup [.str "goal", .str F.nz,.int b,.int (j:Int)]):=by
 have jl:=(yl.mp hg).1
 have al:j<(a4 F.ls).length:=by rw [B9 P hF,yM] at jl;exact jl
 have ha:(a4 F.ls)[j]?=some ((a4 F.ls)[j]'al):=yB al
 generalize (a4 F.ls)[j]'al=p at ha
 have hm:=jV ha
 have g1:=Jh P hF (ks:=[]) (b:=b) ha
 rw [hg] at g1
 have g2:g=gl Fs [] (dW Fs [] F b) p.1 p.2:=Option.some.inj g1
 obtain ⟨G,hG,eG,hl⟩:=rF (Ji P hF hm)
 rw [<-eG,uM P hG] at g2
 unfold dm at g2
 rw [Jk (by simp;omega) (λx hx=>by obtain ⟨y,_,rfl⟩:=jd.mp hx;rfl)] at g2
 rw [g2] at hi
 obtain ⟨c1,c2⟩:=Jl _ _ hi
 obtain ⟨pre,x,post,e,hx,pl⟩:=Ca (F.ls.map li) ha
 let gs':=(bt Fs [] F b).2.take j++(g-2 ^ i)::(bt Fs [] F b).2.drop (j+1)
 have tl:((bt Fs [] F b).2.take j).length=j:=by rw [List.length_take];omega
 have Jm:∀y∈F.ls.map li,bn (dW Fs [] F b) y=none:=λy hy=>by
  obtain ⟨v,hv,rfl⟩:=jd.mp hy
  exact Jj (uX P hF v hv)
 have fi:=B_ P hF hp (L':=dW Fs [] F b) (λ_ h=>h) (gs':=gs') e (λk hk=>by
  rw [pl] at hk
  simp only [gs',List.getD_eq_getElem?_getD]
  rw [wQ (by omega),List.getElem?_take_of_lt hk]) λy hy=>Jm y (by rw [e];simp [hy])
 have gj:gs'.getD j 0=g-2 ^ i:=by
  simp only [gs',List.getD_eq_getElem?_getD]
  rw [iC (by omega),tl,Nat.sub_self]
  rfl
 have bg:ba (dW Fs [] F b) ps p.1 p.2 (g-2 ^ i)=some ("goal" : Str):=by
  refine zF λq=>?_
  rw [g2,c1,BG (by simp),c2,<-c1] at q
  have:(0:Int)<2 ^ i:=Int.pow_pos (by decide)
  omega
 have W:dZ (dW Fs [] F b) ps gs' (F.ls.map li) 0=some (("goal" : Str),PV.int (j:Int)):=by
  rw [e,rM _ 0 fi,dZ,Jm x (by rw [e];simp)]
  simp only
  rw [hx]
  simp only
  rw [pl,Nat.zero_add,gj,bg]
 unfold eM
 rw [show dZ (eU F ⟨F.nz,b,(bt Fs [] F b).1,gs'⟩) ps gs' (F.ls.map li) 0=_ from W]
 rfl
end
def VH {l:List Pr}:∀{met:List Pr},∀x∈l,x∈l.foldl bq met:=by
 induction l with
 | nil=>intro met x h;cases h
 | cons p l ih =>
  intro met x h
  rcases yz.mp h with q|q
  ·subst q
   obtain ⟨t,e⟩:=uO (l:=l) (met:=bq met x)
   rw [List.foldl_cons,e]
   refine wF _ ?_
   unfold bq
   split
   ·assumption
   ·simp
  ·exact ih x q
theorem Cb {Fs:List FD}{ks:Ag}{i:Nat}{met fin:List Pr}(R:fq Fs ks i met fin):(∃t,fin=met++t)/\∀(j:Nat) p,i<=j->fin[j]?=some p->∀x∈bI Fs ks p,x∈fin:=by
 induction R with
 | done met =>
  exact ⟨⟨[],by simp⟩,λj p hj h=>by have:=(yl.mp h).1;omega⟩
 | step i met fin p hp R ih =>
  obtain ⟨⟨t,e⟩,h⟩:=ih
  obtain ⟨t',e'⟩:=uO (l:=bI Fs ks p) (met:=met)
  refine ⟨⟨t'++t,by rw [e,e',wG]⟩,λj q hj hq x hx=>?_⟩
  by_cases ij:i=j
  ·subst ij
   have il:=(yl.mp hp).1
   rw [e,e',wG,wQ il,hp] at hq
   cases hq
   rw [e]
   exact wF _ (VH x hx)
  ·exact h j q (by omega) hq x hx
theorem Cc {ps:List Pr}:∀{a:List (Fm×FD)},(∀x∈a,eM ps x.2 x.1=none)->∀{r:List (Fm×FD)},brk ps (a++r)=brk ps r
 | [],_,r=>rfl
 | x::a,h,r=>by
  rw [List.cons_append,brk,h x (yO ..),Option.none_or]
  exact Cc λy hy=>h y (yX _ hy)
theorem Jn:∀(xs:An) (k i:Nat),(fM k xs)[i]?=(xs[i]?).map λx=>.tup [.int ((k+i:Nat):Int),x]
 | [],_,_=>by simp [fM]
 | x::r,k,0=>by simp [fM]
 | x::r,k,i+1=>by
  rw [fM,List.getElem?_cons_succ,List.getElem?_cons_succ,Jn r (k+1) i,show k+1+i=k+(i+1) by omega]
theorem Jo:∀(xs:An) (k:Nat),(fM k xs).length=xs.length
 | [],_=>rfl
 | x::r,k=>by rw [fM,jt,jt,Jo r]
theorem Jp {fs:Ah}{gt:PV->zj->Option zj}{body:Aj}{e:zj}{s s1:ae}(xs:An) (I:Nat->zj->ae->Prop) (hl:xs.length<=100000) (hf:fs e s=.ok [.tup xs] s1) (step:∀(i:Nat) x e st,xs[i]?=some x->I i e st->∃e1 e2 ax,gt (.tup [.int (i:Int),x]) e=some e1/\body e1 st=.ok (.nx e2) ax/\I (i+1) e2 ax) (h0:I 0 e s1):∃e' s',mT fs gt body e s=.ok (.nx e') s'/\I xs.length e' s':=by
 obtain ⟨e',s',F,h⟩:=dg (g:=gt) (body:=body) (fM 0 xs) I (λi x e st hx hI=>by
  rw [Jn] at hx
  obtain ⟨y,hy,rfl⟩:=Option.map_eq_some_iff.mp hx
  rw [Nat.zero_add]
  exact step i y e st hy hI) (fM 0 xs).length 0 e s1 (by omega) h0
 rw [Jo] at h
 exact ⟨e',s',RG hf (by omega) F,h⟩
inductive Pc (ms:List Fm):PV->Prop
 | name (k j:Nat) (m:Fm):ms[k]?=some m->j<m.zs.length->Pc ms (.tup [.int (k:Int),.str "name", .int (j:Int),.int 0])
 | bit (k j b:Nat) (m:Fm) (g:Int):ms[k]?=some m->m.gs[j]?=some g->b<6->bitAt g b=true->Pc ms (.tup [.int (k:Int),.str "bit", .int (j:Int),.int (b:Int)])
def Pl (ms:List Fm) (r n:Nat) (s:ae):Prop:=∃cv,s[r]?=some (.lst cv)/\(∀p∈cv,Pc ms p)/\cv.length<=n
theorem Pl.add {ms:List Fm}{r n:Nat}{s:ae}{v:PV}(h:Pl ms r n s) (hn:n<1000000) (hv:Pc ms v) {fo fv:Ai}{e:zj}(ho:fo e s=.ok (.ref r) s) (hf:fv e s=.ok v s):∃s',yT (yN yR fo fv) e s=.ok (.nx e) s'/\Pl ms r (n+1) s'/\bx r s s':=by
 obtain ⟨cv,h1,h2,h3⟩:=h
 refine ⟨_,wW (wz ho h1 hf (G6 h1 (by omega))),⟨cv++[v],ju (yv h1),λp hp=>?_,by simp;omega⟩,i9⟩
 rcases jG.mp hp with q|q
 ·exact h2 p q
 ·rw [jP.mp q];exact hv
noncomputable abbrev eP (x0:Ao) (r:Nat) (z2 z3 z4 z5 z6:Ao):zj:=[x0,At r,z2,z3,z4,z5,z6]
noncomputable abbrev Cd:Aj:=(yT (yN yR (zc 1) (zE (zd (zc 2) (zd (As "name") (zd (zc 4) (zd (Ar 0) zm)))))))
noncomputable abbrev rO:Aj:=(zZ (mB (ze yi (ze zY (ze yG (zc 5) (ze kI (Ar 1) (zc 6))) (Ar 2)) (Ar 1)))
  (yT (yN yR (zc 1) (zE (zd (zc 2) (zd (As "bit") (zd (zc 4) (zd (zc 6) zm)))))))
  ye)
theorem VI {ms:List Fm}{k:Nat}{m:Fm}(hk:ms[k]?=some m) (hz:m.zs.length<=200) {x0 z4 z5 z6:Ao}{r n:Nat}{s:ae}(h:Pl ms r n s) (hn:n<=900000) :
  ∃s' y4,(yU (bo (zd (zu yH (zd (ze zt (zc 3) (Ar 2)) zm)) zm)) (gN 4) Cd) (eP x0 r (Au k) (some m.v) z4 z5 z6) s=.ok (.nx (eP x0 r (Au k) (some m.v) y4 z5 z6)) s'/\Pl ms r (n+m.zs.length) s'/\bx r s s':=by
 obtain ⟨e',s',F,⟨y4,he⟩,h1,h2⟩:=kU (gt:=gN 4) (body:=Cd) (fs:=zd (zu yH (zd (ze zt (zc 3) (Ar 2)) zm)) zm) (e:=eP x0 r (Au k) (some m.v) z4 z5 z6) (st:=s) (λi e s1=>(∃y4,e=eP x0 r (Au k) (some m.v) y4 z5 z6)/\Pl ms r (n+i) s1/\bx r s s1) m.zs.length (by omega) (zM (zD (zM (zo (zf rfl) rfl jI)) ((oK _).trans (by rw [yM])))) (λi e s1 hi ⟨⟨y4,he⟩,h1,h2⟩=>by
  subst he
  obtain ⟨s2,E,h3,h4⟩:=h1.add (by omega) (.name k i m hk hi) (fo:=zc 1) (fv:=(zE (zd (zc 2) (zd (As "name") (zd (zc 4) (zd (Ar 0) zm)))))) (e:=eP x0 r (Au k) (some m.v) (Au i) z5 z6) (zf rfl) (ya (jE (zf rfl) rfl (zf rfl) rfl) (by simp))
  exact ⟨eP x0 r (Au k) (some m.v) (Au i) z5 z6,_,s2,rfl,E,⟨_,rfl⟩,h3,h2.trans h4⟩) ⟨⟨z4,rfl⟩,h,bx.refl _ _⟩
 subst he
 exact ⟨s',y4,F,h1,h2⟩
theorem VJ {x0 z2 z3 z4:Ao}{r b:Nat}{g:Int}{s:ae}(hb:b<=100):(mB (ze yi (ze zY (ze yG (zc 5) (ze kI (Ar 1) (zc 6))) (Ar 2)) (Ar 1))) (eP x0 r z2 z3 z4 (some (.int g)) (Au b)) s=.ok (bitAt g b) s:=by
 have p0:(0:Int)<2 ^ b:=Int.pow_pos (by decide)
 have pa:((2:Int) ^ b).natAbs<2 ^ 200:=by
  rw [Int.natAbs_pow]
  exact Nat.pow_lt_pow_right (by decide) (by omega)
 refine zW (zo (zo (zo (zf rfl) (zo rfl (zf rfl) (BE b (by omega) _)) (wA _ _ (by omega) pa)) rfl (jk _ _ (by decide))) rfl ((AA _ _).trans ?_))
 rw [G1 _ _ p0,ue _ _ (by decide)]
 rfl
theorem VL {ms:List Fm}{k j:Nat}{m:Fm}{g:Int}(hk:ms[k]?=some m) (hj:m.gs[j]?=some g) {x0 z6:Ao}{r n:Nat}{s:ae}(h:Pl ms r n s) (hn:n<=900000) :
  ∃s' y6,(yU (bo (zd (Ar 6) zm)) (gN 6) rO) (eP x0 r (Au k) (some m.v) (Au j) (some (.int g)) z6) s=.ok (.nx (eP x0 r (Au k) (some m.v) (Au j) (some (.int g)) y6)) s'/\Pl ms r (n+6) s'/\bx r s s':=by
 obtain ⟨e',s',F,⟨y6,he⟩,h1,h2⟩:=kU (gt:=gN 6) (body:=rO) (fs:=zd (Ar 6) zm) (e:=eP x0 r (Au k) (some m.v) (Au j) (some (.int g)) z6) (st:=s) (λi e s1=>(∃y6,e=eP x0 r (Au k) (some m.v) (Au j) (some (.int g)) y6)/\Pl ms r (n+i) s1/\bx r s s1) 6 (by omega) (zM rfl) (λi e s1 hi ⟨⟨y6,he⟩,h1,h2⟩=>by
  subst he
  have T:=VJ (x0:=x0) (z2:=Au k) (z3:=some m.v) (z4:=Au j) (r:=r) (b:=i) (g:=g) (s:=s1) (by omega)
  cases hb:bitAt g i with
  | false =>
   rw [hb] at T
   obtain ⟨cv,a1,a2,a3⟩:=h1
   exact ⟨eP x0 r (Au k) (some m.v) (Au j) (some (.int g)) (Au i),_,s1,rfl,yu T,⟨_,rfl⟩,⟨cv,a1,a2,by omega⟩,h2⟩
  | true =>
   rw [hb] at T
   obtain ⟨s2,E,h3,h4⟩:=h1.add (by omega) (.bit k j i m g hk hj hi hb) (fo:=zc 1) (fv:=(zE (zd (zc 2) (zd (As "bit") (zd (zc 4) (zd (zc 6) zm)))))) (e:=eP x0 r (Au k) (some m.v) (Au j) (some (.int g)) (Au i)) (zf rfl) (ya (jE (zf rfl) rfl (zf rfl) (zf rfl)) (by simp))
   exact ⟨eP x0 r (Au k) (some m.v) (Au j) (some (.int g)) (Au i),_,s2,rfl,yJ T E,⟨_,rfl⟩,h3,h2.trans h4⟩) ⟨⟨z6,rfl⟩,h,bx.refl _ _⟩
 subst he
 exact ⟨s',y6,F,h1,h2⟩
theorem VM {ms:List Fm}{k:Nat}{m:Fm}(hk:ms[k]?=some m) (hz:m.gs.length<=100) {x0 z4 z5 z6:Ao}{r n:Nat}{s:ae}(h:Pl ms r n s) (hn:n<=800000) :
  ∃s' y4 y5 y6,(mT (zd (ze zt (zc 3) (Ar 3)) zm) (g2 4 5) (yU (bo (zd (Ar 6) zm)) (gN 6) rO)) (eP x0 r (Au k) (some m.v) z4 z5 z6) s=.ok (.nx (eP x0 r (Au k) (some m.v) y4 y5 y6)) s'/\Pl ms r (n+6*m.gs.length) s'/\bx r s s':=by
 obtain ⟨e',s',F,⟨y4,y5,y6,he⟩,h1,h2⟩:=Jp (gt:=g2 4 5) (body:=(yU (bo (zd (Ar 6) zm)) (gN 6) rO)) (fs:=zd (ze zt (zc 3) (Ar 3)) zm) (e:=eP x0 r (Au k) (some m.v) z4 z5 z6) (s:=s) (m.gs.map PV.int) (λi e s1=>(∃y4 y5 y6,e=eP x0 r (Au k) (some m.v) y4 y5 y6)/\Pl ms r (n+6*i) s1/\bx r s s1) (by simp;omega) (zM (zo (zf rfl) rfl wC)) (λi x e s1 hx ⟨⟨y4,y5,y6,he⟩,h1,h2⟩=>by
  subst he
  rw [yI] at hx
  obtain ⟨g,hg,rfl⟩:=Option.map_eq_some_iff.mp hx
  have il:=(yl.mp hg).1
  obtain ⟨s2,w6,E,h3,h4⟩:=VL hk hg (x0:=x0) (z6:=y6) h1 (by omega)
  exact ⟨eP x0 r (Au k) (some m.v) (Au i) (some (.int g)) y6,_,s2,rfl,E,⟨_,_,_,rfl⟩,h3,h2.trans h4⟩) ⟨⟨z4,z5,z6,rfl⟩,h,bx.refl _ _⟩
 subst he
 rw [yM] at h1
 exact ⟨s',y4,y5,y6,F,h1,h2⟩
theorem VN (ms:List Fm) (hl:ms.length<=800) (hb:∀m∈ms,m.zs.length<=100/\m.gs.length<=100) (st:ae):∃r s1 cv,Be [.tup (ms.map Fm.v)] st=.ok (.ref r) s1/\s1[r]?=some (.lst cv)/\(∀p∈cv,Pc ms p)/\cv.length<=560000/\Old st s1:=by
 let x0:Ao:=some (.tup (ms.map Fm.v))
 obtain ⟨e',s',F,⟨y2,y3,y4,y5,y6,he⟩,⟨cv,a1,a2,a3⟩,h2⟩:=Jp (gt:=g2 2 3) (body:=zw (yU (bo (zd (zu yH (zd (ze zt (zc 3) (Ar 2)) zm)) zm)) (gN 4) Cd) (mT (zd (ze zt (zc 3) (Ar 3)) zm) (g2 4 5) (yU (bo (zd (Ar 6) zm)) (gN 6) rO))) (fs:=zd (zc 0) zm) (e:=eP x0 st.length none none none none none) (s:=st++[.lst []]) (ms.map Fm.v) (λi e s1=>(∃y2 y3 y4 y5 y6,e=eP x0 st.length y2 y3 y4 y5 y6)/\Pl ms st.length (700*i) s1/\bx st.length (st++[.lst []]) s1) (by simp;omega) (zM (zf rfl)) (λi x e s1 hx ⟨⟨y2,y3,y4,y5,y6,he⟩,h1,h2⟩=>by
  subst he
  rw [yI] at hx
  obtain ⟨m,hm,rfl⟩:=Option.map_eq_some_iff.mp hx
  have il:=(yl.mp hm).1
  obtain ⟨b1,b2⟩:=hb m (jV hm)
  obtain ⟨s2,w4,E,h3,h4⟩:=VI hm (by omega) (x0:=x0) (z4:=y4) (z5:=y5) (z6:=y6) h1 (by omega)
  obtain ⟨s3,v4,v5,v6,E',⟨cv,c1,c2,c3⟩,h6⟩:=VM hm b2 (x0:=x0) (z4:=w4) (z5:=y5) (z6:=y6) h3 (by omega)
  exact ⟨eP x0 st.length (Au i) (some m.v) y4 y5 y6,_,s3,rfl,zy E E',⟨_,_,_,_,_,rfl⟩,⟨cv,c1,c2,by omega⟩,(h2.trans h4).trans h6⟩) ⟨⟨none,none,none,none,none,rfl⟩,⟨[],yt _ _,(λ_ h=>nomatch h),js _⟩,bx.refl _ _⟩
 subst he
 rw [yM] at a3
 exact ⟨st.length,s',cv,yf rfl (zy (zN (jz jO (by simp))) (zy F (yh (zf rfl)))),a1,a2,by omega,λk so e=>h2 k so (by have:=yv e;omega) (yb _ _ _ _ e)⟩
def VO (xs:An) (k:Nat):cy xs (some (k:Int)) none=xs.drop k:=by
 unfold cy
 rw [HT.sIx_none,HT.sIx_nat]
 by_cases h:k<=xs.length
 ·rw [Nat.min_eq_left h,List.take_of_length_le (by simp)]
 ·rw [Nat.min_eq_right (by omega),iD (yk _),iD (by omega),List.take_nil]
section
variable {f fl fu:Ai}{e:zj}{s:ae}{xs:An}{k:Nat}
def Ce (h:f e s=.ok (.tup xs) s) (hu:fu e s=.ok (.int (k:Int)) s):wb f bU (bC fu) e s=.ok (.tup (xs.take k)) s:=tQ h tR (qL hu) (by rw [El,Hl])
def Cf (h:f e s=.ok (.tup xs) s) (hu:fl e s=.ok (.int (k:Int)) s):wb f (bC fl) bU e s=.ok (.tup (xs.drop k)) s:=tQ h (qL hu) tR (by rw [El,VO])
def rP {x:PV}(h:xs[k]?=some x):zt (.tup xs) (.int (k:Int)) s=.ok x s:=by
 show b_ (cY xs (k:Int)) s=_
 rw [aU h]
 rfl
end
noncomputable def kZ (m:Fm) (j:Nat):Fm:=⟨m.f,m.b,m.zs.take j++m.zs.drop (j+1),m.gs⟩
noncomputable def k7 (m:Fm) (j b:Nat) (g:Int):Fm:=⟨m.f,m.b,m.zs,m.gs.take j++(g-2 ^ b)::m.gs.drop (j+1)⟩
noncomputable abbrev pf (ms:List Fm) (k:Nat) (m:Fm):List Fm:=ms.take k++m::ms.drop (k+1)
section
variable {ms:List Fm}{k j:Nat}{m:Fm}{s:ae}
theorem Jq (hl:ms.length<=100000) (hk:ms[k]?=some m) (m':Fm) {pv:PV}{z2 z3:Ao}(h0:zt pv (.int 0) s=.ok (.int (k:Int)) s):(zV (ze zT (ze zT (wb (zc 0) bU (bC (ze zt (zc 1) (Ar 0)))) (zE (zd (zc 4) zm))) (wb (zc 0) (bC (ze zT (ze zt (zc 1) (Ar 0)) (Ar 1))) bU))) [some (.tup (ms.map Fm.v)),some pv,z2,z3,some m'.v] s=.ok (.rt (.tup ((pf ms k m').map Fm.v))) s:=by
 have kl:=(yl.mp hk).1
 refine yh (zo (zo (Ce (zf rfl) (zo (zf rfl) rfl h0)) (ya (zM (zf rfl)) (by simp)) (iZ (by simp;omega))) (Cf (k:=k+1) (zf rfl) (zo (zo (zf rfl) rfl h0) rfl (yY k 1))) ((iZ (by simp;omega)).trans ?_))
 rw [<-List.map_take,<-List.map_drop,jA,yo,wG]
 rfl
theorem Jr (hk:ms[k]?=some m) {pv:PV}(hz:m.zs.length<=1000) (h0:zt pv (.int 0) s=.ok (.int (k:Int)) s) (h2:zt pv (.int 2) s=.ok (.int (j:Int)) s) {X:Res Fl}(h:GX [some (.tup (ms.map Fm.v)),some pv,some m.v,Au j,some (kZ m j).v] s=X):GY [some (.tup (ms.map Fm.v)),some pv,none,none,none] s=X:=by
 have A:zT (.tup ((m.zs.map PV.str).take j)) (.tup ((m.zs.map PV.str).drop (j+1))) s=.ok (.tup ((kZ m j).zs.map PV.str)) s:=by
  rw [iZ (by simp;omega),<-List.map_take,<-List.map_drop,<-jA]
  rfl
 exact zy (zN (zo (zf rfl) (zo (zf rfl) rfl h0) (rP (by rw [yI,hk];rfl)))) (zy (zN (zo (zf rfl) rfl h2)) (zy (zN (ya (jE (zo (zf rfl) rfl yK) (zo (zf rfl) rfl yZ) (zo (Ce (zo (zf rfl) rfl jI) (zf rfl)) (Cf (k:=j+1) (zo (zf rfl) rfl jI) (zo (zf rfl) rfl (yY j 1))) A) (zo (zf rfl) rfl wC)) (by simp))) h))
theorem VP (hl:ms.length<=100000) (hk:ms[k]?=some m) (hz:m.zs.length<=1000):oS [.tup (ms.map Fm.v),.tup [.int (k:Int),.str "name", .int (j:Int),.int 0]] s=.ok (.tup ((pf ms k (kZ m j)).map Fm.v)) s :=
 yf rfl (Jr hk hz yK jI (zy (yu (zW (zo (zo (zf rfl) rfl yZ) rfl (dA (by decide +kernel) _)))) (Jq hl hk _ yK)))
theorem VQ {b:Nat} {g:Int} (hl:ms.length<=100000) (hk:ms[k]?=some m) (hz:m.zs.length<=1000) (hg:m.gs[j]?=some g) (gl:m.gs.length<=1000) (hb:b<=100):oS [.tup (ms.map Fm.v),.tup [.int (k:Int),.str "bit", .int (j:Int),.int (b:Int)]] s=.ok (.tup ((pf ms k (k7 m j b g)).map Fm.v)) s:=by
 have A:zT (.tup ((m.gs.map PV.int).take j++[.int (g-2 ^ b)])) (.tup ((m.gs.map PV.int).drop (j+1))) s=.ok (.tup ((k7 m j b g).gs.map PV.int)) s:=by
  rw [iZ (by simp;omega),<-List.map_take,<-List.map_drop,wG]
  show _=Res.ok (PV.tup ((m.gs.take j++(g-2 ^ b)::m.gs.drop (j+1)).map PV.int)) s
  rw [jA]
  rfl
 exact yf rfl (Jr hk hz yK jI (zy (yJ (zW (zo (zo (zf rfl) rfl yZ) rfl (eK _))) (zN (ya (jE (zo (zf rfl) rfl yK) (zo (zf rfl) rfl yZ) (zo (zf rfl) rfl jI)
  (zo (zo (Ce (zo (zf rfl) rfl wC) (zf rfl)) (ya (zM (zo (zo (zo (zf rfl) rfl wC) (zf rfl) (rP (by rw [yI,hg];rfl))) (zo rfl (zo (zf rfl) rfl wC) (BE b (by omega) _)) (g_ _ _))) (by simp)) (iZ (by simp;omega))) (Cf (k:=j+1) (zo (zf rfl) rfl wC) (zo (zf rfl) rfl (yY j 1))) A)) (by simp)))) (Jq hl hk (k7 m j b g) yK)))
end
section
variable {g:PV->zj->Option zj}{body:Aj}{r i n:Nat}{xs:An}{x v:PV}{e e1 e2:zj}{s s1:ae}{X:Res Fl}
def VR (h:s[r]?=some (.lst xs)) (hi:xs.length<=i):forR g body r (n+1) i e s=.ok (.nx e) s:=by
 unfold forR
 rw [yD h,rS hi]
def VS (h:s[r]?=some (.lst xs)) (hx:xs[i]?=some x) (hg:g x e=some e1) (hb:body e1 s=.ok (.nx e2) s1) (hr:forR g body r n (i+1) e2 s1=X):forR g body r (n+1) i e s=X:=by
 unfold forR
 rw [yD h,hx]
 simp only
 rw [hg]
 simp only
 rw [hb,zJ]
 exact hr
def VT (h:s[r]?=some (.lst xs)) (hx:xs[i]?=some x) (hg:g x e=some e1) (hb:body e1 s=.ok (.rt v) s1):forR g body r (n+1) i e s=.ok (.rt v) s1:=by
 unfold forR
 rw [yD h,hx]
 simp only
 rw [hg]
 simp only
 rw [hb,zJ]
end
noncomputable def cL (z:Str) (l:PV):Bool:=match li l with
 | .call z' _ _=>decide (z'=z)
 | _=>false
noncomputable abbrev Cg:Ak:=(wI (mB (ze yi (ze zt (zc 5) (Ar 0)) (As "call"))) (mB (ze wT (ze zt (zc 5) (Ar 1)) (zc 4))))
noncomputable abbrev Js:Aj:=(zZ Cg
  (zV (zE (zd (As "call") (zd (ze zt (zc 3) (Ar 0)) (zd (ze zt (zc 3) (Ar 1)) (zd (zc 4) zm))))))
  ye)
noncomputable abbrev ph (x0 x1 x2:Ao) (m:Fm) (z:Str) (z5:Ao):zj:=[x0,x1,x2,some m.v,some (.str z),z5]
section
variable {hs:List (Str×Nat)}{x0 x1 x2 z5:Ao}{m:Fm}{z:Str}{s:ae}
def VU {l:PV}(h:Ln hs l):Cg (ph x0 x1 x2 m z (some l)) s=.ok (cL z l) s:=by
 have no:∀{w:Str} {r:An},w ≠ "call" -> Cg (ph x0 x1 x2 m z (some (.tup (.str w::r)))) s=.ok false s:=λh=>iV (q0 rfl (dA h _))
 unfold cL
 rcases h with ⟨k,y,h⟩|⟨k,h⟩
 ·cases h with
  | let_ o n as=>rw [ig];exact no n1
  | call f as =>
   rw [ik]
   exact g9 (q0 rfl (eK _)) (zW (zo (zo (zf rfl) rfl yZ) (zf rfl) (q8 _ _ _ (by by_cases h:y=z<;>simp [h]) _)))
 ·cases h with
  | give x hx=>rw [show li (.tup [.str "give", x])=.oth by cases hx<;>rfl];exact no n3
  | fail w=>exact no n5
  | if_ x v1 v2 hx=>rw [show li (.tup [.str "if", x,v1,v2])=.oth by cases hx<;>rfl];exact no n8
  | go f as=>rw [iq];exact no n7
theorem Jt {r:Nat} {ls:An} (hr:s[r]?=some (.lst ls)) (hl:∀l∈ls,Ln hs l):∀(k i fuel:Nat) (z5:Ao),i+k=ls.length->k<fuel->∃fl,forR (gN 5) Js r fuel i (ph x0 x1 x2 m z z5) s=.ok fl s/\((ls.drop i).any (cL z)=true->fl=.rt (.tup [.str "call", .str m.f,.int m.b,.str z]))/\((ls.drop i).any (cL z)=false->∃y5,fl=.nx (ph x0 x1 x2 m z y5))
 | 0,i,fuel,z5,hk,hf=>by
  obtain ⟨n,rfl⟩:∃n,fuel=n+1:=⟨fuel-1,by omega⟩
  have hd:ls.drop i=[]:=iD (by omega)
  exact ⟨_,VR hr (by omega),λh=>by rw [hd] at h;simp at h,λ_=>⟨z5,rfl⟩⟩
 | k+1,i,fuel,z5,hk,hf=>by
  obtain ⟨n,rfl⟩:∃n,fuel=n+1:=⟨fuel-1,by omega⟩
  have hi:i<ls.length:=by omega
  have hx:ls[i]?=some (ls[i]'hi):=yB hi
  have T:=VU (x0:=x0) (x1:=x1) (x2:=x2) (m:=m) (z:=z) (s:=s) (hl _ (wP hi))
  rw [j8 hi,List.any_cons]
  cases hc:cL z (ls[i]'hi) with
  | true =>
   rw [hc] at T
   exact ⟨_,VT hr hx rfl (yJ T (yh (ya (jE rfl (zo (zf rfl) rfl yK) (zo (zf rfl) rfl yZ) (zf rfl)) (by simp)))),λ_=>rfl,λh=>by simp at h⟩
  | false =>
   rw [hc] at T
   obtain ⟨fl,E,h1,h2⟩:=Jt hr hl k (i+1) n (some (ls[i]'hi)) (by omega) (by omega)
   exact ⟨fl,VS hr hx rfl (yu T) E,λh=>h1 (by simpa using h),λh=>h2 (by simpa using h)⟩
end
section
variable {Fs:List FD}{F:FD}{ms:List Fm}{k j:Nat}{m:Fm}
def VW (hk:ms[k]?=some m) (b:Nat) (x0:PV) (s:ae):mV [x0,.tup (ms.map Fm.v),.tup [.int (k:Int),.str "bit", .int (j:Int),.int (b:Int)]] s=.ok (.tup [.str "goal", .str m.f,.int m.b,.int (j:Int)]) s :=
 yf rfl (zy (zN (zo (zf rfl) (zo (zf rfl) rfl yK) (rP (by rw [yI,hk];rfl)))) (jf (yJ (zW (zo (zo (zf rfl) rfl yZ) rfl (eK _))) (yh (ya (jE rfl (zo (zf rfl) rfl yK) (zo (zf rfl) rfl yZ) (zo (zf rfl) rfl jI)) (by simp))))))
theorem VX (P:aP Fs) (hF:F∈Fs) (hk:ms[k]?=some m) (hm:m.f=F.nz) {z:Str} (hz:m.zs[j]?=some z) (s:ae):∃s1,mV [.tup (Fs.map FD.v),.tup (ms.map Fm.v),.tup [.int (k:Int),.str "name", .int (j:Int),.int 0]] s=.ok (.tup [.str (if F.ls.any (cL z)=true then "call" else "let"),.str m.f,.int m.b,.str z]) s1/\Old s s1:=by
 have ok:=P.fn F hF
 obtain ⟨dd,oX,B⟩:=ok.bk
 have nl:=ok.nl
 obtain ⟨r,s1,E1,hr,o1⟩:=HI B (by omega) (by omega) s
 have BY:=U5 P hF s
 rw [<-hm] at BY
 obtain ⟨fl,E2,h1,h2⟩:=Jt (x0:=some (.tup (Fs.map FD.v))) (x1:=some (.tup (ms.map Fm.v))) (x2:=some (.tup [.int (k:Int),.str "name", .int (j:Int),.int 0])) (m:=m) (z:=z) hr (rH ok.ln) F.ls.length 0 (lim+1) none (by omega) (by simp [lim];omega)
 have FO:=IY (f:=(zu mU (zd (ze zt (zu ud (zd (zc 0) (zd (ze zt (zc 3) (Ar 0)) zm))) (Ar 2)) zm))) (gt:=gN 5) (body:=Js) (e:=ph (some (.tup (Fs.map FD.v))) (some (.tup (ms.map Fm.v))) (some (.tup [.int (k:Int),.str "name", .int (j:Int),.int 0])) m z none) (s:=s) (zD (zM (zo (zD (zX (zf rfl) (zo (zf rfl) rfl yK)) BY) rfl jI)) E1) hr E2
 rw [List.drop_zero] at h1 h2
 have pre:∀{v:PV},(GZ (ph (some (.tup (Fs.map FD.v))) (some (.tup (ms.map Fm.v))) (some (.tup [.int (k:Int),.str "name", .int (j:Int),.int 0])) m z none) s=.ok (.rt v) s1)->mV [.tup (Fs.map FD.v),.tup (ms.map Fm.v),.tup [.int (k:Int),.str "name", .int (j:Int),.int 0]] s=.ok v s1:=λh =>
  yf rfl (zy (zN (zo (zf rfl) (zo (zf rfl) rfl yK) (rP (by rw [yI,hk];rfl)))) (zy (yu (zW (zo (zo (zf rfl) rfl yZ) rfl (dA (by decide +kernel) _)))) (zy (zN (zo (zo (zf rfl) rfl jI) (zo (zf rfl) rfl jI) (rP (by rw [yI,hz];rfl)))) h)))
 refine ⟨s1,?_,o1⟩
 cases hc:F.ls.any (cL z) with
 | true=>rw [h1 hc] at FO;exact pre (jf FO)
 | false =>
  obtain ⟨y5,e⟩:=h2 hc
  rw [e] at FO
  exact pre (zy FO (yh (ya (jE rfl (zo (zf rfl) rfl yK) (zo (zf rfl) rfl yZ) (zf rfl)) (by simp))))
end
noncomputable def fdOf (Fs:List FD) (p:Pr):FD:=(Fs.find? λF=>decide (F.nz=p.1)).getD ⟨"", [],[],[],.non⟩
def nE {Fs:List FD}(P:aP Fs) {p:Pr}(g:Gd Fs p) (ws:Ag):fdOf Fs p∈Fs/\(fdOf Fs p).nz=p.1/\0<=p.2/\a8 Fs ws p=(gu Fs ws (fdOf Fs p) p.2).v/\bI Fs ws p=cC Fs ws (fdOf Fs p) p.2:=by
 obtain ⟨F,hF,e,h0,_⟩:=g
 have kY:Fs.find? (λG=>decide (G.nz=p.1))=some F:=by rw [<-e];exact rE P.nd hF
 have ef:fdOf Fs p=F:=by unfold fdOf;rw [kY];rfl
 rw [ef]
 refine ⟨hF,e,h0,?_,?_⟩
 ·unfold a8;rw [kY];rfl
 ·unfold bI;rw [kY]
noncomputable abbrev fy (Fs:List FD) (ws:Ag) (fin:List Pr):List (Fm×FD):=fin.map λp=>(gu Fs ws (fdOf Fs p) p.2,fdOf Fs p)
section
variable {Fs:List FD}{ws:Ag}{fin:List Pr}
def Ci (P:aP Fs) (g:∀x∈fin,Gd Fs x):(fy Fs ws fin).map (λx=>x.1.v)=fin.map (a8 Fs ws):=by
 rw [List.map_map]
 exact List.map_congr_left λp hp=>(nE P (g p hp) ws).2.2.2.1.symm
def Ju (P:aP Fs) (g:∀x∈fin,Gd Fs x):(fy Fs ws fin).map (λx=>x.1.p)=fin:=by
 rw [List.map_map]
 conv=>rhs;rw [<-List.map_id fin]
 exact List.map_congr_left λp hp=>by
  show ((fdOf Fs p).nz,p.2)=p
  rw [(nE P (g p hp) ws).2.1]
def rQ (P:aP Fs) {p:Pr}(g:Gd Fs p):GF Fs (gu Fs ws (fdOf Fs p) p.2) (fdOf Fs p):=by
 obtain ⟨hF,e,h0,_,_⟩:=nE P g ws
 exact ⟨hF,rfl,h0,Jg P hF,jr (rK (P.fn _ hF) P p.2).1 (by decide),by show _<=(bt Fs ws (fdOf Fs p) p.2).2.length;rw [B9 P hF,yM];exact yk _⟩
def Jv (P:aP Fs) (g:∀x∈fin,Gd Fs x) {q:Pr}(R:fq Fs ws 0 [q] fin):∀x∈fy Fs ws fin,eM fin x.2 x.1=none:=λx hx=>by
 obtain ⟨p,hp,rfl⟩:=jd.mp hx
 obtain ⟨hF,_,_,_,en⟩:=nE P (g p hp) ws
 obtain ⟨j,hj⟩:=List.getElem?_of_mem hp
 exact VB P hF λy hy=>(Cb R).2 j p (js _) hj y (by rw [en];exact hy)
theorem Cj (P:aP Fs) (g:∀x∈fin,Gd Fs x) (hl:fin.length<=800) {q:Pr}(R:fq Fs ws 0 [q] fin) (st:ae):∃s1,iY [.tup (Fs.map FD.v),.tup (fin.map (a8 Fs ws))] st=.ok .non s1/\Old st s1:=by
 obtain ⟨s1,E,o⟩:=Ja P (fy Fs ws fin) (λx hx=>by obtain ⟨p,hp,rfl⟩:=jd.mp hx;exact rQ P (g p hp)) (by simp;omega) st
 have e:=Cc (Jv P g R) (r:=[])
 rw [Ci P g,Ju P g] at E
 rw [List.append_nil] at e
 rw [e] at E
 exact ⟨s1,E,o⟩
theorem Jw (P:aP Fs) (g:∀x∈fin,Gd Fs x) (hl:fin.length<=800) {q:Pr}(R:fq Fs ws 0 [q] fin) {k:Nat}{p:Pr}(hk:fin[k]?=some p) {m':Fm}(h1:GF Fs m' (fdOf Fs p)) (h2:m'.p=p) {rv:PV}(h3:eM fin (fdOf Fs p) m'=some rv) (st:ae) :
  ∃s1,iY [.tup (Fs.map FD.v),.tup ((pf ((fy Fs ws fin).map (·.1)) k m').map Fm.v)] st=.ok rv s1/\Old st s1:=by
 have kl:=(yl.mp hk).1
 let ms:=(fy Fs ws fin).take k++(m',fdOf Fs p)::(fy Fs ws fin).drop (k+1)
 have sp:fin=fin.take k++p::fin.drop (k+1):=by
  have he:=(yl.mp hk).2
  conv=>lhs;rw [<-List.take_append_drop k fin,j8 kl,he]
 have hm:∀x∈ms,GF Fs x.1 x.2:=λx hx=>by
  rcases jG.mp hx with q|q
  ·obtain ⟨y,hy,rfl⟩:=jd.mp (List.mem_of_mem_take q);exact rQ P (g y hy)
  ·rcases yz.mp q with q|q
   ·rw [q];exact h1
   ·obtain ⟨y,hy,rfl⟩:=jd.mp (List.mem_of_mem_drop q);exact rQ P (g y hy)
 obtain ⟨s1,E,o⟩:=Ja P ms hm (by simp [ms];omega) st
 have e1:ms.map (λx=>x.1.v)=(pf ((fy Fs ws fin).map (·.1)) k m').map Fm.v:=by
  simp only [ms,pf,jA,yo,List.map_take,List.map_drop,List.map_map]
  rfl
 have e2:ms.map (λx=>x.1.p)=fin:=by
  have:=Ju (ws:=ws) P g
  simp only [ms,jA,yo,List.map_take,List.map_drop]
  rw [this,h2]
  exact sp.symm
 rw [e1,e2,Cc (λx hx=>Jv P g R x (List.mem_of_mem_take hx)),brk,h3] at E
 exact ⟨s1,E,o⟩
end
def VY {z:Str}{ls pre post:An}{l:PV}(e:ls=pre++l::post) (h:cK z (li l)) (h1:∀l'∈pre,¬cK z (li l')) (h2:∀l'∈post,¬cK z (li l')):ls.any (cL z)=isCall (li l):=by
 have no:∀l',¬cK z (li l')->cL z l'=false:=λl' hn=>by
  unfold cL
  cases hx:li l' with
  | call z' f as=>rw [hx] at hn;exact jC hn
  | _=>rfl
 have a1:pre.any (cL z)=false:=List.any_eq_false.mpr λx hx=>by rw [no x (h1 x hx)];simp
 have a2:post.any (cL z)=false:=List.any_eq_false.mpr λx hx=>by rw [no x (h2 x hx)];simp
 rw [e,List.any_append,List.any_cons,a1,a2,Bool.false_or,Bool.or_false]
 unfold cL
 cases hx:li l with
 | call z' f as=>rw [hx] at h;exact jJ h
 | _=>rfl
theorem VZ {Fs:List FD}(P:aP Fs) {fin:List Pr}(g:∀x∈fin,Gd Fs x) (hl:fin.length<=800) {q:Pr}(R:fq Fs [] 0 [q] fin) {pv:PV}(h:Pc ((fy Fs [] fin).map (·.1)) pv) (s:ae) :
  ∃lv w f b x s1 s2,(∀s,oS [.tup (fin.map (a8 Fs [])),pv] s=.ok (.tup lv) s)/\iY [.tup (Fs.map FD.v),.tup lv] s=.ok (.tup [.str w,.str f,.int b,x]) s1/\mV [.tup (Fs.map FD.v),.tup (fin.map (a8 Fs [])),pv] s1=.ok (.tup [.str w,.str f,.int b,x]) s2/\((∃z,x=.str z)\/∃i,x=.int i)/\Old s s2:=by
 have ev:fin.map (a8 Fs [])=((fy Fs [] fin).map (·.1)).map Fm.v:=by rw [<-Ci P g,List.map_map,List.map_map,List.map_map];rfl
 have get:∀{k:Nat} {m:Fm},((fy Fs [] fin).map (·.1))[k]?=some m->∃p,fin[k]?=some p/\m=gu Fs [] (fdOf Fs p) p.2:=λhk=>by
  rw [List.map_map,yI] at hk
  obtain ⟨p,hp,e⟩:=Option.map_eq_some_iff.mp hk
  exact ⟨p,hp,e.symm⟩
 have ll:((fy Fs [] fin).map (·.1)).length<=100000:=by simp;omega
 rw [ev]
 cases h with
 | name k j m hk hj =>
  obtain ⟨p,hp,rfl⟩:=get hk
  have gp:=g p (jV hp)
  obtain ⟨hF,e,h0,_,en⟩:=nE P gp []
  obtain ⟨jj,Ck⟩:=List.getElem?_of_mem (jV hp)
  have hz:(bt Fs [] (fdOf Fs p) p.2).1[j]?=some ((bt Fs [] (fdOf Fs p) p.2).1[j]'hj):=yB hj
  generalize (bt Fs [] (fdOf Fs p) p.2).1[j]'hj=z at hz
  obtain ⟨pre,l,post,el,hn,h1,h2,hb⟩:=VD P hF (ps:=fin) (λy hy=>(Cb R).2 jj p (js _) Ck y (by rw [en];exact hy)) hz
  have wl:=rK (ws:=[]) (P.fn _ hF) P p.2
  have gf:=rQ (ws:=[]) P gp
  have Cm:GF Fs (kZ (gu Fs [] (fdOf Fs p) p.2) j) (fdOf Fs p):=⟨hF,rfl,h0,gf.nd.sublist ((List.Sublist.refl _).append (by
   show ((bt Fs [] (fdOf Fs p) p.2).1.take j++(bt Fs [] (fdOf Fs p) p.2).1.drop (j+1)).Sublist (bt Fs [] (fdOf Fs p) p.2).1
   conv=>rhs;rw [<-List.take_append_drop j (bt Fs [] (fdOf Fs p) p.2).1]
   exact (List.Sublist.refl _).append (List.drop_sublist_drop_left _ (by omega)))),by
   show ((bt Fs [] (fdOf Fs p) p.2).1.take j++(bt Fs [] (fdOf Fs p) p.2).1.drop (j+1)).length<=200
   simp;omega,gf.gl⟩
  obtain ⟨s1,E1,o1⟩:=Jw P g hl R hp Cm (by show ((fdOf Fs p).nz,p.2)=p;rw [e]) hb s
  obtain ⟨s2,E2,o2⟩:=VX P hF hk rfl hz s1
  rw [VY el hn h1 h2] at E2
  exact ⟨_,_,_,_,_,s1,s2,λs=>VP ll hk (by show (bt Fs [] (fdOf Fs p) p.2).1.length<=1000;omega),E1,E2,.inl ⟨z,rfl⟩,o1.trans o2⟩
 | bit k j i m gg hk hj hi hb =>
  obtain ⟨p,hp,rfl⟩:=get hk
  have gp:=g p (jV hp)
  obtain ⟨hF,e,h0,_,en⟩:=nE P gp []
  obtain ⟨jj,Ck⟩:=List.getElem?_of_mem (jV hp)
  have B:=VG P hF (ps:=fin) (λy hy=>(Cb R).2 jj p (js _) Ck y (by rw [en];exact hy)) hj hb
  have wl:=rK (ws:=[]) (P.fn _ hF) P p.2
  have gf:=rQ (ws:=[]) P gp
  have jl:=(yl.mp hj).1
  have Cm:GF Fs (k7 (gu Fs [] (fdOf Fs p) p.2) j i gg) (fdOf Fs p):=⟨hF,rfl,h0,gf.nd,gf.zl,by
   have:=gf.gl
   show (a4 (fdOf Fs p).ls).length<=((gu Fs [] (fdOf Fs p) p.2).gs.take j++(gg-2 ^ i)::(gu Fs [] (fdOf Fs p) p.2).gs.drop (j+1)).length
   rw [iA,List.length_take,jt,List.length_drop]
   omega⟩
  obtain ⟨s1,E1,o1⟩:=Jw P g hl R hp Cm (by show ((fdOf Fs p).nz,p.2)=p;rw [e]) B s
  exact ⟨_,_,_,_,_,s1,s1,λs=>VQ ll hk (by show (bt Fs [] (fdOf Fs p) p.2).1.length<=1000;omega) hj (by show (bt Fs [] (fdOf Fs p) p.2).2.length<=1000;omega) (by omega),E1,VW hk i _ s1,.inr ⟨_,rfl⟩,o1⟩
def Jx {F0:FD}{Fr:List FD}(P:aP (F0::Fr)) (bits:Int) (h0:0<=bits) (h1:bits<2 ^ F0.ps.length) (ws:Ag) (hw:ws.length<=1000) (st:ae):∃fin s1,qY [.tup ((F0::Fr).map FD.v),.int bits,.tup (ws.map aW)] st=.ok (.tup (fin.map (a8 (F0::Fr) ws))) s1/\fq (F0::Fr) ws 0 [(F0.nz,bits)] fin/\(∀x∈fin,Gd (F0::Fr) x)/\0<fin.length/\fin.length<=800/\Old st s1:=by
 obtain ⟨ks,fin,s1,E,R,hm,o⟩:=U4 P bits h0 h1 ws hw st
 rw [(IJ hm).1] at E
 have R':=U7 hm R
 obtain ⟨⟨t,et⟩,nd,g,_⟩:=Vh P R' (by simp) (λx hx=>by rw [jP.mp hx];exact ⟨F0,yO ..,rfl,h0,h1⟩)
 exact ⟨fin,s1,E,R',g,by rw [et];simp,BL P nd g,o⟩
noncomputable abbrev eV (sv pv:PV) (c sz b:Int) (fv:PV) (r:Nat) (z7 z8 z9:Ao):zj:=[some sv,some pv,some (.int c),some (.int sz),some (.int b),some fv,At r,z7,z8,z9]
noncomputable abbrev bV:Aj:=(zw (zG 8 (ze zt (zc 6) (zu jT (zd (ze yG (zc 2) (zc 3)) (zd (ze zT (Ar 40) (zc 7)) (zd (zu yH (zd (zc 6) zm)) zm))))))
  (zw (zZ (mB (ze wR (zu yH (zd (zc 6) zm)) (Ar 7)))
  (zG 8 (ze zt (zc 6) (zc 7)))
  ye)
  (zw (zG 9 (zu iY (zd (zc 1) (zd (zu oS (zd (zc 5) (zd (zc 8) zm))) zm))))
  (zw (zZ (jw (j9 (mB (zu (je isT) (zd (zc 9) (zd (mC (.ty "tuple")) zm))))) (jw (mB (ze jL (zu yH (zd (zc 9) zm)) (Ar 4))) (jw (j9 (mB (zu kR (zd (ze zt (zc 9) (Ar 2)) zm)))) (mB (zu (je isT) (zd (ze zt (zc 9) (Ar 3)) (zd (mC (.ty "bool")) zm)))))))
  (zV (mC (.bl false)))
  ye)
  (zZ (mB (ze jL (zc 9) (zu mV (zd (zc 1) (zd (zc 5) (zd (zc 8) zm))))))
  (zV (mC (.bl false)))
  ye)))))
def Jy {s:ae}{r i:Nat}{xs:An}{x:PV}(h:s[r]?=some (.lst xs)) (hx:xs[i]?=some x):zt (.ref r) (.int (i:Int)) s=.ok x s:=by
 rw [mK,yD h,aU hx];rfl
def V0 {x:PV} (h:(∃z,x=.str z)\/∃i,x=.int i) (s:ae):je isT [x,.ty "bool"] s=.ok (.bl false) s:=by
 rcases h with ⟨z,rfl⟩|⟨i,rfl⟩<;>rfl
def V1 {w f:Str}{b:Int}{x:PV}(h:(∃z,x=.str z)\/∃i,x=.int i):nB 1 (.tup [.str w,.str f,.int b,x]):=by
 refine .tup 0 _ λy hy=>?_
 simp only [yz,List.not_mem_nil,gy] at hy
 rcases hy with e|e|e|e<;>rw [e]
 ·exact .str _ _
 ·exact .str _ _
 ·exact .int _ _
 ·rcases h with ⟨z,rfl⟩|⟨i,rfl⟩
  ·exact .str _ _
  ·exact .int _ _
theorem V2 {Fs:List FD}(P:aP Fs) {fin:List Pr}(g:∀x∈fin,Gd Fs x) (hl:fin.length<=800) {q:Pr}(R:fq Fs [] 0 [q] fin) {sv:PV}{c sz b:Int}(s0:sz≠0) (sA:sz.natAbs<2 ^ 200) {r i:Nat}{z8 z9:Ao}{s:ae}{cv:An}(hr:s[r]?=some (.lst cv)) (hp:∀p∈cv,Pc ((fy Fs [] fin).map (·.1)) p) (hi:i<cv.length) (h6:i<6) :
  ∃s' y8 y9,bV (eV sv (.tup (Fs.map FD.v)) c sz b (.tup (fin.map (a8 Fs []))) r (Au i) z8 z9) s=.ok (.nx (eV sv (.tup (Fs.map FD.v)) c sz b (.tup (fin.map (a8 Fs []))) r (Au i) y8 y9)) s'/\Old s s':=by
 have L:=wV hr
 obtain ⟨j,hj,ej⟩:=gr (jH c sz) (40+i) cv.length (by omega) (by omega) s
 have K:∃pl∈cv,∀{X:Res Fl} {rest:Aj},rest (eV sv (.tup (Fs.map FD.v)) c sz b (.tup (fin.map (a8 Fs []))) r (Au i) (some pl) z9) s=X->zw (zZ (mB (ze wR (zu yH (zd (zc 6) zm)) (Ar 7))) (zG 8 (ze zt (zc 6) (zc 7))) ye) rest (eV sv (.tup (Fs.map FD.v)) c sz b (.tup (fin.map (a8 Fs []))) r (Au i) (some (cv[j]'hj)) z9) s=X:=by
  by_cases h7:cv.length<7
  ·exact ⟨cv[i]'hi,wP hi,λh=>zy (yJ (zW (zo (zD (zM (zf rfl)) L) rfl ((Az _ _).trans (by rw [jJ (show (cv.length:Int)<7 by omega)])))) (zN (zo (zf rfl) (zf rfl) (Jy hr (yB hi))))) h⟩
  ·exact ⟨cv[j]'hj,wP hj,λh=>zy (yu (zW (zo (zD (zM (zf rfl)) L) rfl ((Az _ _).trans (by rw [jC (show ¬(cv.length:Int)<7 by omega)]))))) h⟩
 obtain ⟨pl,bX,K⟩:=K
 obtain ⟨lv,w,f,bb,x,s1,s2,E1,E2,E3,hx,o⟩:=VZ P g hl R (hp pl bX) s
 have N:=Vg (V1 (w:=w) (f:=f) (b:=bb) hx) (by decide) s2
 exact ⟨s2,_,_,zy (zN (zo (zf rfl) (zD (yL (zo (zf rfl) (zf rfl) (wA _ _ s0 sA)) (zo rfl (zf rfl) (yY 40 i)) (zD (zM (zf rfl)) L)) ej) (Jy hr (yB hj)))) (K (zy (zN (zD (zX (zf rfl) (zD (zX (zf rfl) (zf rfl)) (E1 s))) E2)) (zy (yu (iW (lK (b:=true) (zW (zD (zX (zf rfl) rfl) rfl))) (iW (zW (zo (zD (zM (zf rfl)) (oK _)) rfl (FF _ _))) (iW (lK (b:=true) (zW (zD (zM (zo (zf rfl) rfl jI)) (BU _ _)))) (zW (zD (zX (zo (zf rfl) rfl wC) rfl) (V0 hx _))))))) (yu (zW (zo (zf rfl) (zD (yL (zf rfl) (zf rfl) (zf rfl)) E3) N)))))),o⟩
theorem zvU (ns:List Int):∃st,G0 [.frl (ns.map .int)] []=.ok (.bl true) st:=by
 obtain ⟨hs,fs,s1,E1,PR,_⟩:=T4 ns []
 obtain ⟨Fs0,rfl,P0⟩:=Uw PR
 obtain ⟨F0,Fr,rfl⟩:∃F0 Fr,Fs0=F0::Fr:=by
  cases Fs0 with
  | nil=>have:=P0.ok.pos;simp at this
  | cons F0 Fr=>exact ⟨F0,Fr,rfl⟩
 have P:=P0
 let Fs:=F0::Fr
 have V3:F0∈Fs:=yO ..
 have np:=(P.fn F0 V3).np
 let sv:PV:=.frl (ns.map .int)
 let pv:PV:=.tup (Fs.map FD.v)
 obtain ⟨c0,s2,E2,o2⟩:=i6 ns 5 (by decide) s1
 let c:=jH c0 8
 let sz:Int:=2 ^ F0.ps.length
 have Jz:sz=((2 ^ F0.ps.length:Nat):Int):=by simp [sz]
 have Xi:0<sz:=Int.pow_pos (by decide)
 have JA:sz.natAbs<2 ^ 200:=by
  show ((2:Int) ^ F0.ps.length).natAbs<2 ^ 200
  rw [Int.natAbs_pow]
  exact Nat.pow_lt_pow_right (by decide) (by omega)
 obtain ⟨bn,V4,JB⟩:=bG c (2 ^ F0.ps.length) (Nat.pow_pos (by decide))
 rw [<-Jz] at JB
 have blt:(bn:Int)<sz:=by rw [Jz];exact_mod_cast V4
 obtain ⟨ws,s3,E3,hw,o3⟩:=Vc P (jH c sz) s2
 obtain ⟨fin,s4,E4,R4,g4,_,l4,o4⟩:=Jx P (bn:Int) (by omega) blt ws (by omega) s3
 obtain ⟨s5,E5,o5⟩:=Cj P g4 l4 R4 s4
 obtain ⟨fd,s6,E6,R6,g6,p6,l6,o6⟩:=Jx P (bn:Int) (by omega) blt [] (by simp) s5
 obtain ⟨s7,E7,o7⟩:=Vf P (ws:=[]) g6 p6 (by omega) s6
 obtain ⟨s8,E8,o8⟩:=Cj P g6 l6 R6 s7
 have ev:fd.map (a8 Fs [])=((fy Fs [] fd).map (·.1)).map Fm.v:=by rw [<-Ci P g6,List.map_map,List.map_map,List.map_map];rfl
 obtain ⟨r,s9,cv,E9,hr,hp,pl,o9⟩:=VN ((fy Fs [] fd).map (·.1)) (by simp;omega) (λm hm=>by
  obtain ⟨x,hx,rfl⟩:=jd.mp hm
  obtain ⟨p,hp,rfl⟩:=jd.mp hx
  exact rK (P.fn _ (nE P (g6 p hp) []).1) P p.2) s8
 rw [<-ev] at E9
 let n:=min 6 cv.length
 have L:=wV hr
 have MN:oG [.int 6,.int (cv.length:Int)] s9=.ok (.int (n:Int)) s9:=by
  rw [Qp]
  congr 2
  simp only [n]
  split<;>omega
 obtain ⟨e',V6,F,⟨z7,z8,z9,he⟩,Wd,_⟩:=kU (gt:=gN 7) (body:=bV) (fs:=(zd (zu oG (zd (Ar 6) (zd (zu yH (zd (zc 6) zm)) zm))) zm)) (e:=eV sv pv c sz (bn:Int) (.tup (fd.map (a8 Fs []))) r none none none) (st:=s9) (λi e s=>(∃z7 z8 z9,e=eV sv pv c sz (bn:Int) (.tup (fd.map (a8 Fs []))) r z7 z8 z9)/\s[r]?=some (.lst cv)/\Old s9 s) n (by simp only [n];omega) (zM (zD (zX rfl (zD (zM (zf rfl)) L)) MN)) (λi e s hi ⟨⟨z7,z8,z9,he⟩,oZ,ob⟩=>by
  subst he
  obtain ⟨s',y8,y9,E,o⟩:=V2 P g6 l6 R6 (sv:=sv) (c:=c) (sz:=sz) (b:=(bn:Int)) (by omega) JA (r:=r) (i:=i) (z8:=z8) (z9:=z9) oZ hp (by simp only [n] at hi;omega) (by simp only [n] at hi;omega)
  exact ⟨eV sv pv c sz (bn:Int) (.tup (fd.map (a8 Fs []))) r (Au i) z8 z9,_,s',rfl,E,⟨_,_,_,rfl⟩,o _ _ oZ,ob.trans o⟩) ⟨⟨none,none,none,rfl⟩,hr,Old.refl _⟩
 subst he
 obtain ⟨V7,BN,_⟩:=Cj P g6 l6 R6 V6
 exact ⟨V7,yf rfl (zy (zN (zD (zM (zf rfl)) E1)) (zy (zN (zo (zD (zX (zf rfl) rfl) E2) rfl (wA _ _ (by decide) (by decide)))) (zy (zN (zo rfl (zD (zM (zo (zo (zf rfl) rfl yK) rfl yZ)) ((oK _).trans (by rw [yM]))) (BE _ (by omega) _))) (zy (zN (zo (zf rfl) (zf rfl) ((jk _ _ (by omega)).trans (by rw [show jc c sz=(bn:Int) from JB])))) (zy (yu (zW (zo (zD (zX (zf rfl) (zD (yL (zf rfl) (zf rfl) (zD (zX (zo (zf rfl) (zf rfl) (wA _ _ (by omega) JA)) (zf rfl)) E3)) E4)) E5) rfl (iu _ _)))) (zy (zN (zD (yL (zf rfl) (zf rfl) (ya jO (by simp))) E6)) (zy (yu (iW (lK (b:=true) (zW (zD (zM (zf rfl)) E7))) (zW (zo (zD (zX (zf rfl) (zf rfl)) E8) rfl (iu _ _))))) (zy (zN (zD (zM (zf rfl)) E9)) (zy F (yh (zo (zD (zX (zf rfl) (zf rfl)) BN) rfl rfl)))))))))))⟩
end FK43
open PySem PySem.W PyProof.Rows
set_option maxHeartbeats 0
namespace PySem.W.Fast
def tw4630039706741159055:=()
def tw7178250473417958602:=()
local macro_rules
|`(command|#print $s:str)=>do
 let c<-(s.getString.splitOn " ").toArray.flatMapM λw=>do
  let [p,a,b]:=w.splitOn "_"|Lean.Macro.throwUnsupported
  (Array.range (b.toNat!+1-a.toNat!)).mapM λk=>do
   let n:=Lean.mkIdent (.mkSimple s!"tw{((`hdT).str s!"{p}_{a.toNat!+k}").hash}")
   `(command|def $n := ())
 return Lean.mkNullNode c
#print "o_43_46 o_49_419 tree_47_47 tree_131_131 tree_182_182 tree_264_264 tree_341_341 tree_419_419 heap_39_39 heap_46_46 heap_420_420 sts_49_49 sts_132_132 sts_183_183 sts_265_265 sts_342_342 env_41_41 view_39_39"
end PySem.W.Fast
open_top hdT for PySem.Challenge.rw_foreknown_k43_nothing_taken_out
theorem PySem.Challenge.cw_foreknown_k43_nothing_taken_out_holds : PySem.Challenge.rw_foreknown_k43_nothing_taken_out.Holds :=
 hdT (by
 k_fill
 refine Mi.walkM (l:=PySem.Challenge.rw_foreknown_k43_nothing_taken_out) (k:=18) (x := "_law_script") rfl rfl ⟨rfl,by decide,by decide⟩ (λw h Y=>PySem.W.kIn_of Y) ?F
 case F =>
  intro w mg fa h KX G hmg
  have n_Holding:Mi.NwF (L2.KOf KX) mg "Holding" "Holding.__init__" FK43.zfQ ["self", "program", "held"]:=by
   dsimp only [L2.KOf]
   refine' Mi.zqM KX G ?aC ?mk ?kc ?a ?i ?l ?c ?k ?b
   case aC|mk|kc|a|i|l|c|k=>k_is
   (case b=>exact λ_ _ _ _ _ _ us hl=>match us,hl with|[_,_,_],_=>rfl)
  have m_Holding_goal_of:Mi.MtF (L2.KOf KX) mg "Holding" "goal_of" "Holding.goal_of" FK43.zfR ["self", "aim", "later"]:=by
   dsimp only [L2.KOf]
   refine' Mi.zfl KX G ?aC ?pg ?hd ?po ?sa ?a ?i ?l ?c ?k ?b
   case aC|pg|hd|po|sa|a|i|l|c|k=>k_is
   (case b=>exact λ_ _ _ _ _ _ us hl=>match us,hl with|[_,_,_],_=>rfl)
  have m_Holding_makes_later:Mi.MtF (L2.KOf KX) mg "Holding" "makes_later" "Holding.makes_later" FK43.zfS ["self", "name", "step", "later"]:=by
   dsimp only [L2.KOf]
   refine' Mi.zfl KX G ?aC ?pg ?hd ?po ?sa ?a ?i ?l ?c ?k ?b
   case aC|pg|hd|po|sa|a|i|l|c|k=>k_is
   (case b=>exact λ_ _ _ _ _ _ us hl=>match us,hl with|[_,_,_,_],_=>rfl)
  have m_Holding_best_form:Mi.MtF (L2.KOf KX) mg "Holding" "best_form" "Holding.best_form" FK43.zfT ["self", "function", "bits"]:=by
   dsimp only [L2.KOf]
   refine' Mi.zfl KX G ?aC ?pg ?hd ?po ?sa ?a ?i ?l ?c ?k ?b
   case aC|pg|hd|po|sa|a|i|l|c|k=>k_is
   (case b=>exact λ_ _ _ _ _ _ us hl=>match us,hl with|[_,_,_],_=>rfl)
  have d_bits_by_name:Mi.FldF (L2.KOf KX) mg "bits_by_name" FK43.insOf FK43.excOf:=by
   refine ⟨λc hc=>?_,λc hc=>?_⟩
   ·simp [FK43.insOf,or_assoc] at hc
    rcases hc with rfl
    ·dsimp only [L2.KOf]
     refine' Mi.zis KX G ?aC ?pg ?hd ?po ?sa ?na
     case aC|pg|hd|po|sa|na=>k_is
   ·simp [FK43.excOf] at hc
  have d_pairs:Mi.FldF (L2.KOf KX) mg "pairs" FK43.insOf FK43.excOf:=by
   refine ⟨λc hc=>?_,λc hc=>?_⟩
   ·simp [FK43.insOf,or_assoc] at hc
    rcases hc with rfl
    ·dsimp only [L2.KOf]
     refine' Mi.zis KX G ?aC ?pg ?hd ?po ?sa ?na
     case aC|pg|hd|po|sa|na=>k_is
   ·simp [FK43.excOf] at hc
  have is:Mi.IsF (L2.KOf KX) mg FK43.isT:=by
   exact Mi.zrh rfl rfl rfl
  have T:FK43.Txt w (L2.KOf KX) mg:=by
   constructor
   case n_Holding=>exact n_Holding
   case m_Holding_goal_of=>exact m_Holding_goal_of
   case m_Holding_makes_later=>exact m_Holding_makes_later
   case m_Holding_best_form=>exact m_Holding_best_form
   case d_bits_by_name=>exact d_bits_by_name
   case d_pairs=>exact d_pairs
   case is=>exact is
   all_goals first
    | (show Mi.FnF _ _ _ _ [_];dsimp only [L2.KOf];refine' Mi.zcP KX G ?a ?l ?c ?k ?b;(case a|l|c|k=>k_is);(case b=>exact λ_ _ _ _ _ _ us hl=>match us,hl with|[_],_=>rfl))
    | (show Mi.FnF _ _ _ _ [_,_];dsimp only [L2.KOf];refine' Mi.zcP KX G ?a ?l ?c ?k ?b;(case a|l|c|k=>k_is);(case b=>exact λ_ _ _ _ _ _ us hl=>match us,hl with|[_,_],_=>rfl))
    | (show Mi.FnF _ _ _ _ [_,_,_];dsimp only [L2.KOf];refine' Mi.zcP KX G ?a ?l ?c ?k ?b;(case a|l|c|k=>k_is);(case b=>exact λ_ _ _ _ _ _ us hl=>match us,hl with|[_,_,_],_=>rfl))
    | (show Mi.FnF _ _ _ _ [_,_,_,_];dsimp only [L2.KOf];refine' Mi.zcP KX G ?a ?l ?c ?k ?b;(case a|l|c|k=>k_is);(case b=>exact λ_ _ _ _ _ _ us hl=>match us,hl with|[_,_,_,_],_=>rfl))
    | (show Mi.FnF _ _ _ _ [_,_,_,_,_,_];dsimp only [L2.KOf];refine' Mi.zcP KX G ?a ?l ?c ?k ?b;(case a|l|c|k=>k_is);(case b=>exact λ_ _ _ _ _ _ us hl=>match us,hl with|[_,_,_,_,_,_],_=>rfl))
    | (refine' Mi.zqO KX G ?a;case a=>k_is)
  exact Mi.zqN T.f_law hmg (λ_ _ _ _ _ _ _=>rfl) (λf fd F base=>FK43.ztN T F) (λns _=>FK43.zvU ns))
