import PyProof.Rows.All
import Wide.All
import OpenK.AllK
import Wide.FinOn
import Lean
import PyProof.EqAt
import PyProof.EqKinds
import PyProof.TupleCall
import PySem.Challenge.RW_foreknown_k42_best_form_by_form
set_option Elab.async false
set_option linter.all false
set_option maxRecDepth 100000
abbrev Aa:=PySem.Value->PySem.Shared->Prop
abbrev Ab:=PySem.Str->Option PySem.Value
abbrev Ac:=List (PySem.Addr×PySem.Obj)
abbrev Ad:=List PySem.Str
abbrev Ae:=List PySem.Addr
abbrev Af:=List PySem.Value
def zx:=@PySem.wpAny_bind
def yh:=@PySem.Heap.get?_push_of_some
def zZ:=@PySem.wpAny_pure
def yA:=@PySem.Heap.lt_size
def yW:=@PySem.Heap.get?_push_size
def jk:=@PySem.wpAny_field
def j9:=@PySem.wpAny_call_entry
def gf:=@PySem.wpAny_newObj_type
def wA:=@PySem.wpAny_holding
def jX:=@PySem.wpAny_mono
def hV:=@PySem.Heap.get?_update_other
def gg:=@PySem.wpAny_truthy_bool
def wB:=@PySem.lookup_relabel_local
def lR:=@PySem.wpAny_rule
def yx:=@List.getElem?_eq_getElem
def yo:=@List.getElem?_set_ne
def yt:=@List.getElem?_eq_some_iff
def je:=@List.getElem?_set_self
def ym:=@Nat.le_refl
def yQ:=@List.size_toArray
def y0:=@List.mem_cons_self
def jm:=@List.mem_cons_of_mem
def jn:=@List.mem_append_right
def gh:=@List.mem_append_left
def zF:=@if_pos
def zP:=@if_neg
def jN:=@List.mem_singleton
def yM:=@List.getElem?_map
def yC:=@List.mem_cons
def wa:=@List.drop_eq_getElem_cons
def ja:=@Nat.le_trans
def wV:=@List.getElem_mem
def h_:=@List.length_append
def ia:=@if_true
def jB:=@Nat.zero_le
def wb:=@List.mem_of_getElem?
def yI:=@List.length_map
def ju:=@List.map_append
def jO:=@Nat.lt_of_lt_of_le
def wt:=@or_false
def yu:=@List.map_cons
def jb:=@Nat.ne_of_lt
def o_:=@List.range_succ
def iT:=@Bool.and_eq_true
def jv:=@List.mem_map
def wu:=@List.mem_append
def jP:=@List.length_cons
def jH:=@List.nodup_cons
def gi:=@List.getElem?_append_left
def iU:=@List.getElem?_append_right
def jU:=@decide_eq_false
def wc:=@decide_eq_true
def jQ:=@Nat.mod_lt
def lS:=@List.drop_of_length_le
def rE:=@List.flatMap_cons
def wW:=@List.lookup_cons
def pd:=@List.getElem?_eq_none
def kJ:=@List.getElem?_eq_none_iff
def kK:=@List.append_assoc
def gj:=@List.mem_range
def nS:=@decide_eq_true_eq
def yT:=@Ne.symm
def wv:=@Nat.lt_succ_self
namespace L2
open PySem PySem.Spec PyProof.Rows
abbrev Key:=Sum Int Str
def eQ:Key->Value->Bool
 | .inl k,v=>Value.isInt k v
 | .inr x,v=>Value.isStrOf x v
def Ca (w:World):Key->Int
 | .inl k=>hashInt k
 | .inr x=>hashStr w x
def ib:∀{k:Key}{v:Value},eQ k v=true->(∃i t,k=Sum.inl i/\v=Value.int i t)\/(∃x t,k=Sum.inr x/\v=Value.str x t)
 | .inl i,v,h=>by
  obtain ⟨t,e⟩:=Value.isInt_shape (k:=i) (v:=v) h
  exact .inl ⟨i,t,rfl,e⟩
 | .inr x,v,h=>by
  obtain ⟨t,e⟩:=Value.isStrOf_shape (x:=x) (v:=v) h
  exact .inr ⟨x,t,rfl,e⟩
def Jb (i:Int) (t:Tok):eQ (.inl i) (.int i t)=true:=by simp [eQ,Value.isInt]
def Jc (x:Str) (t:Tok):eQ (.inr x) (.str x t)=true:=by simp [eQ,Value.isStrOf]
def Jd (a b:Int):decide ((Sum.inl a:Key)=Sum.inl b)=(a==b):=by
 by_cases e:a=b
 ·subst e;simp
 ·have h:¬(Sum.inl a:Key)=Sum.inl b:=λq=>e (Sum.inl.inj q)
  rw [jU h]
  exact (beq_eq_false_iff_ne.mpr e).symm
def Je (a b:Str):decide ((Sum.inr a:Key)=Sum.inr b)=decide (a=b):=by
 by_cases e:a=b
 ·subst e;simp
 ·have h:¬(Sum.inr a:Key)=Sum.inr b:=λq=>e (Sum.inr.inj q)
  rw [jU h,jU e]
def Jf (a:Int) (b:Str):decide ((Sum.inl a:Key)=Sum.inr b)=false:=jU (λq=>nomatch q)
def Jg (a:Str) (b:Int):decide ((Sum.inr a:Key)=Sum.inl b)=false:=jU (λq=>nomatch q)
def aY (prog:Program) (w:World):PySem.KeyKind prog w Key where
 is:=eQ
 hash:=Ca w
 inj:=λv a b ha hb=>by
  rcases ib ha with ⟨i,t,rfl,rfl⟩|⟨x,t,rfl,rfl⟩
  ·rcases ib hb with ⟨j,u,rfl,e⟩|⟨y,u,rfl,e⟩
   ·injection e with e1 _;rw [e1]
   ·exact nomatch e
  ·rcases ib hb with ⟨j,u,rfl,e⟩|⟨y,u,rfl,e⟩
   ·exact nomatch e
   ·injection e with e1 _;rw [e1]
 byValue:=λk v h=>by
  rcases ib h with ⟨i,t,rfl,rfl⟩|⟨x,t,rfl,rfl⟩<;>rfl
 pyHash:=λhv h=>by
  rcases ib hv with ⟨i,t,rfl,rfl⟩|⟨x,t,rfl,rfl⟩
  ·exact wpAny_pyHash_int h
  ·exact wpAny_pyHash_str h
 eqBool:=λhu hv h=>by
  rcases ib hu with ⟨i,t,rfl,rfl⟩|⟨x,t,rfl,rfl⟩
  ·rcases ib hv with ⟨j,u,rfl,rfl⟩|⟨y,u,rfl,rfl⟩
   ·rw [Jd] at h;exact wpAny_eqBool_int h
   ·rw [Jf] at h;exact SeqAt.EqAt.int_str i t y u _ _ _ _ h
  ·rcases ib hv with ⟨j,u,rfl,rfl⟩|⟨y,u,rfl,rfl⟩
   ·rw [Jg] at h;exact SeqAt.EqAt.str_int x t j u _ _ _ _ h
   ·rw [Je] at h;exact wpAny_eqBool_str h
 «strs» := λk x t v h=>by
  rcases ib h with ⟨i,u,rfl,e⟩|⟨y,u,rfl,e⟩
  ·exact nomatch e
  ·injection e with e1 _
   subst e1
   cases v<;>rfl
def Jh (prog:Program) (w:World) (i:Int) (t:Tok):(aY prog w).is (.inl i) (.int i t)=true:=Jb i t
def Ji (prog:Program) (w:World) (x:Str) (t:Tok):(aY prog w).is (.inr x) (.str x t)=true:=Jc x t
inductive V where
 | non|bl (b:Bool)|int (i:Int)|str (x:Str)|byt (b:Array UInt8)|flt (b:UInt64)|ref (a:Addr)|ty (n:String)
 deriving DecidableEq
def RelV:V->Value->Prop
 | .non,u=>u=Value.none
 | .bl b,u=>u=Value.bool b
 | .int i,u=>∃t,u=Value.int i t
 | .str x,u=>∃t,u=Value.str x t
 | .byt b,u=>∃t,u=Value.bytes b t
 | .flt b,u=>∃t,u=Value.float b t
 | .ref a,u=>u=Value.ref a
 | .ty n,u=>u=Value.type n
abbrev Vals:List V->List Value->Prop:=Paired RelV
def Vals.length {xs:List V}{us:Af}(r:Vals xs us):xs.length=us.length:=Paired.length r
theorem Vals.get:∀{xs:List V}{us:Af}{i:Nat}{x:V},Vals xs us->xs[i]?=some x->∃u,us[i]?=some u/\RelV x u
 | _,_,_,_,.nil,e=>by simp at e
 | _,_,0,_,.cons r _,e=>by simp at e;subst e;exact ⟨_,rfl,r⟩
 | _,_,i+1,x,.cons _ t,e=>by
  obtain ⟨u,h1,h2⟩:=Vals.get (i:=i) (x:=x) t (by simpa using e)
  exact ⟨u,by simpa using h1,h2⟩
theorem Vals.set {x:V}{u:Value}(r:RelV x u):∀{xs:List V}{us:Af}(i:Nat),Vals xs us->Vals (xs.set i x) (us.set i u)
 | _,_,_,.nil=>.nil
 | _,_,0,.cons _ t=>.cons r t
 | _,_,i+1,.cons q t=>.cons q (Vals.set r i t)
theorem Vals.append:∀{xs ys:List V}{us ws:Af},Vals xs us->Vals ys ws->Vals (xs++ys) (us++ws)
 | _,_,_,_,.nil,s=>s
 | _,_,_,_,.cons r t,s=>.cons r (Vals.append t s)
theorem Vals.take:∀{xs:List V}{us:Af}(n:Nat),Vals xs us->Vals (xs.take n) (us.take n)
 | _,_,0,_=>.nil
 | _,_,_+1,.nil=>.nil
 | _,_,n+1,.cons r t=>.cons r (Vals.take n t)
theorem Vals.drop:∀{xs:List V}{us:Af}(n:Nat),Vals xs us->Vals (xs.drop n) (us.drop n)
 | _,_,0,r=>r
 | _,_,_+1,.nil=>.nil
 | _,_,n+1,.cons _ t=>Vals.drop n t
def cz:Option V->Option Value->Prop
 | some v,some u=>RelV v u
 | none,none=>True
 | _,_=>False
def KV {κ:Type}:List (κ×V)->List (κ×Value)->Prop:=Paired λ(p:κ×V) (q:κ×Value)=>p.1=q.1/\RelV p.2 q.2
def kV:Key->V
 | .inl i=>.int i
 | .inr x=>.str x
inductive HO where
 | lst (xs:List V)
 | tup (xs:List V)
 | dK (kvs:List (Key×V))|dT (kvs:List (List Key×V))
 | set (S:Int->Bool) (n:Nat)
 | ins (C dx:Addr) (fs:List (Str×V))
 | own (x:Addr)
 | xd (fs:List (Str×V))
 | met (f x:Addr)
 | rng (lo hi:Int)
 | frz (o:Obj) (u:HO)
 | tbl (ps:Array Value)
 | ext (φ:Program->World->Heap->Prop)
abbrev Hp:=Addr->Option HO
def upd (H:Hp) (a:Addr) (o:HO):Hp:=λb=>if b=a then some o else H b
def jf {H:Hp}{a:Addr}{o:HO}:upd H a o a=some o:=by unfold upd;rw [zF rfl]
def yE {H:Hp}{a b:Addr}{o:HO}(h:b≠a):upd H a o b=H b:=by unfold upd;rw [zP h]
def Jj {H:Hp}{a b:Addr}{o u:HO}(h:H a=some o) (h':H b=some u) (d:o≠u):a≠b:=by
 intro e;subst e;rw [h] at h';exact d (Option.some.inj h')
def ic {H:Hp}{a b:Addr}{o:HO}(h:H a=some o) (h':H b=none):a≠b:=by
 intro e;subst e;rw [h] at h';cases h'
section
variable (P:Program) (w:World)
def aR (H:Hp) (h:Heap) (a:Addr):HO->Prop
 | .lst xs=>xs.length<=sizeLine/\∃(its:Af) (n:Nat),Vals xs its/\h.get? a=some { cls:=.type "list", data:=.seq its.toArray n }
 | .tup xs=>xs.length<=sizeLine/\∃its:Af,Vals xs its/\IsTup h a its.toArray
 | .dK kvs=>kvs.length<=sizeLine/\(a==sysModules)=false/\∃vs,KV kvs vs/\h.DictOf (aY P w) a vs
 | .dT kvs=>kvs.length<=sizeLine/\(a==sysModules)=false/\∃xs:List (List Key×Addr×Value),
   Paired (λ(p:List Key×V) (q:List Key×Addr×Value)=>p.1=q.1/\H q.2.1=some (.tup (p.1.map kV))/\RelV p.2 q.2.2) kvs xs /\
   ∃o es ep,h.get? a=some o/\o.ExactDict/\o.data=.dict es ep/\es.toList=xs.map (entryOfKey (tupleKind (aY P w)))/\(xs.map (·.1)).Nodup
 | .set S n=>h.SetOf (intKind P w) a S n
 | .ins C dx fs=>H dx=some (.own a)/\fs.length<=1000/\dx≠a/\h.get? a=some (PySem.W.instObj C dx) /\
   ∃mA,h.Ns1 dx mA/\(∀f,cz (fs.lookup f) (mA f))/\PySem.Within mA (fs.map (·.1))
 | .own _=>∃o,h.get? a=some o
 | .xd fs=>∃mA,h.Ns1 a mA/\∀f,cz (fs.lookup f) (mA f)
 | .rng lo hi=>∃t u v,h.get? a=some { cls:=.type "range", data:=.fields #[.int lo t,.int hi u,.int 1 v] }
 | .frz o u=>h.get? a=some o/\aR H h a u
 | .tbl ps=>h.get? a=some { cls:=.none,data:=.fields ps }
 | .met f x=>h.get? a=some (PySem.W.methodObj (.ref f) (.ref x))
 | .ext φ=>φ P w h/\(∃o,h.get? a=some o)/\∀h1 h2:Heap,φ P w h1->(∀o,h1.get? a=some o->h2.get? a=some o)->φ P w h2
def cf (H:Hp) (h:Heap):Prop:=∀a o,H a=some o->aR P w H h a o
end
section
variable {P:Program}{w:World}{H H':Hp}{h h':Heap}{a:Addr}{o:HO}
def aR.lt (x:aR P w H h a o):a<h.objs.size:=by
 cases o with
 | lst xs=>obtain ⟨_,_,_,_,e⟩:=x;exact yA e
 | tup xs=>obtain ⟨_,_,_,p⟩:=x;exact p.lt
 | dK kvs=>obtain ⟨_,_,_,_,o,_,_,e,_⟩:=x;exact yA e
 | dT kvs=>obtain ⟨_,_,_,_,o,_,_,e,_⟩:=x;exact yA e
 | set S n=>obtain ⟨o,_,_,_,e,_⟩:=x;exact yA e
 | ins C dx fs=>obtain ⟨_,_,_,e,_⟩:=x;exact yA e
 | own y=>obtain ⟨_,e⟩:=x;exact yA e
 | xd fs=>obtain ⟨_,⟨_,_,_,e,_⟩,_⟩:=x;exact yA e
 | rng lo hi=>obtain ⟨_,_,_,e⟩:=x;exact yA e
 | frz ob u=>obtain ⟨e,_⟩:=x;exact yA e
 | tbl ps=>exact yA (show h.get? a=some _ from x)
 | met f y=>exact yA (show h.get? a=some _ from x)
 | ext φ=>obtain ⟨_,⟨_,e⟩,_⟩:=x;exact yA e
theorem Paired.mapP {α β:Type}{F G:α->β->Prop}:∀{aH:List α}{aI:List β},Paired F aH aI->(∀a b,F a b->G a b)->Paired G aH aI
 | _,_,.nil,_=>.nil
 | _,_,.cons r t,f=>.cons (f _ _ r) (Paired.mapP t f)
def aR.stay (x:aR P w H h a o) (k:∀b u,(b=a\/H b=some (.own a))->h.get? b=some u->h'.get? b=some u)
  (ho:∀b,H b=some (.own a)->H' b=some (.own a)) (ht:∀b xs,H b=some (.tup xs)->H' b=some (.tup xs)):aR P w H' h' a o:=by
 induction o with
 | lst xs=>obtain ⟨z,its,n,r,e⟩:=x;exact ⟨z,its,n,r,k _ _ (.inl rfl) e⟩
 | tup xs=>obtain ⟨z,its,r,ob,e,c⟩:=x;exact ⟨z,its,r,ob,k _ _ (.inl rfl) e,c⟩
 | dK kvs=>obtain ⟨z,y,vs,r,ob,es,ep,e,c⟩:=x;exact ⟨z,y,vs,r,ob,es,ep,k _ _ (.inl rfl) e,c⟩
 | dT kvs =>
  obtain ⟨z,y,xs,r,ob,es,ep,e,c⟩:=x
  exact ⟨z,y,xs,Paired.mapP r λp q z=>⟨z.1,ht _ _ z.2.1,z.2.2⟩,ob,es,ep,k _ _ (.inl rfl) e,c⟩
 | set S n=>obtain ⟨ob,es,ep,t,e,c⟩:=x;exact ⟨ob,es,ep,t,k _ _ (.inl rfl) e,c⟩
 | ins C dx fs =>
  obtain ⟨d,z,ne,e,mA,⟨od,es,ep,e2,c⟩,r⟩:=x
  exact ⟨ho _ d,z,ne,k _ _ (.inl rfl) e,mA,⟨od,es,ep,k _ _ (.inr d) e2,c⟩,r⟩
 | own y=>obtain ⟨ob,e⟩:=x;exact ⟨ob,k _ _ (.inl rfl) e⟩
 | xd fs=>obtain ⟨mA,⟨od,es,ep,e,c⟩,r⟩:=x;exact ⟨mA,⟨od,es,ep,k _ _ (.inl rfl) e,c⟩,r⟩
 | rng lo hi=>obtain ⟨t,u,v,e⟩:=x;exact ⟨t,u,v,k _ _ (.inl rfl) e⟩
 | frz ob u ih=>obtain ⟨e,q⟩:=x;exact ⟨k _ _ (.inl rfl) e,ih q⟩
 | tbl ps =>
  have e:h.get? a=some { cls:=.none,data:=.fields ps }:=x
  show h'.get? a=some { cls:=.none,data:=.fields ps }
  exact k a _ (.inl rfl) e
 | met f y =>
  have e:h.get? a=some (PySem.W.methodObj (.ref f) (.ref y)):=x
  show h'.get? a=some (PySem.W.methodObj (.ref f) (.ref y))
  exact k a _ (.inl rfl) e
 | ext φ=>obtain ⟨p,⟨o,e⟩,st⟩:=x;exact ⟨st _ _ p λo q=>k _ _ (.inl rfl) q,⟨o,k _ _ (.inl rfl) e⟩,st⟩
def cf.lt (x:cf P w H h) (e:H a=some o):a<h.objs.size:=(x a o e).lt
def cf.fresh (x:cf P w H h) (e:h.objs.size<=a):H a=none:=by
 cases q:H a with
 | none=>rfl
 | some u=>exact absurd (jO (x.lt q) e) (Nat.lt_irrefl _)
def cf.kept (x:cf P w H h) (k:∀b u,h.get? b=some u->h'.get? b=some u):cf P w H h':=λa o e =>
 (x a o e).stay (λb u _ q=>k b u q) (λ_ q=>q) λ_ _ q=>q
def cf.laid (x:cf P w H h) (k:∀b u,h.get? b=some u->h'.get? b=some u) (hp:h.objs.size<=a) (new:aR P w (upd H a o) h' a o):cf P w (upd H a o) h':=λb u e=>by
 have hn:=x.fresh hp
 by_cases hb:b=a
 ·subst hb;rw [jf] at e;cases e;exact new
 ·rw [yE hb] at e
  exact (x b u e).stay (λc v _ q=>k c v q) (λc q=>by rw [yE (ic q hn)];exact q) λc xs q=>by rw [yE (ic q hn)];exact q
end
def Rd (H:Hp) (a:Addr) (u:HO):Prop:=H a=some u\/∃o,H a=some (.frz o u)
def Rd.ok {P:Program}{w:World}{H:Hp}{h:Heap}{a:Addr}{u:HO}(r:Rd H a u) (x:cf P w H h):aR P w H h a u:=by
 rcases r with r|⟨o,r⟩
 ·exact x a u r
 ·obtain ⟨_,q⟩:=x a _ r
  exact q
def pe:Option HO->Prop
 | some (.lst _)=>True
 | some (.dK _)=>True
 | some (.dT _)=>True
 | some (.set _ _)=>True
 | some (.ins _ _ _)=>True
 | some (.ext _)=>True
 | _=>False
section
variable {P:Program}{w:World}{H:Hp}{h h':Heap}{x e:Addr}{o':HO}
def cf.write (ok:cf P w H h) (mu:pe (H x)) (he:e=x\/H e=some (.own x)) (k:∀b u,b≠e->h.get? b=some u->h'.get? b=some u) (nU:∃u,h'.get? e=some u)
  (new:aR P w (upd H x o') h' x o'):cf P w (upd H x o') h':=λb u q=>by
 have uC:∀c y,H c=some (.own y)->c≠x:=λc y r z=>by subst z;rw [r] at mu;exact mu
 have Cb:∀c xs,H c=some (.tup xs)->c≠x:=λc xs r z=>by subst z;rw [r] at mu;exact mu
 by_cases hb:b=x
 ·subst hb;rw [jf] at q;cases q;exact new
 ·rw [yE hb] at q
  by_cases hbe:b=e
  ·have q':H b=some (.own x):=by
    rcases he with z|z
    ·exact absurd (hbe.trans z) hb
    ·rw [hbe];exact z
   rw [q] at q';cases q'
   obtain ⟨v,hv⟩:=nU
   exact ⟨v,by rw [hbe];exact hv⟩
  ·refine (ok b u q).stay (λc v hc r=>k c v ?_ r) (λc r=>by rw [yE (uC c b r)];exact r) λc xs r=>by rw [yE (Cb c xs r)];exact r
   rcases hc with rfl|hc
   ·exact hbe
   ·rintro rfl
    rcases he with z|z
    ·exact uC c b hc z
    ·rw [hc] at z;cases z;exact hb rfl
end
structure Un (fs ex:Ae) (H H':Hp) (h h':Heap):Prop where
 keep:∀b o,h.get? b=some o->H b=none->b∉fs->b∉ex->h'.get? b=some o
 slot:∀b o,h.get? b=some o->H b=none->b∈fs->b∉ex->∃sl,h'.get? b=some { o with slots:=sl }
 free:∀b o,h.get? b=some o->H b=none->b∉ex->H' b=none
 there:∀b o,h.get? b=some o->b∉ex->∃o',h'.get? b=some o'
 tups:∀b xs,H b=some (.tup xs)->H' b=some (.tup xs)
 frzs:∀b o u,H b=some (.frz o u)->H' b=some (.frz o u)
 tbls:∀b ps,H b=some (.tbl ps)->∃more,H' b=some (.tbl (ps++more))
section
variable {fs Jk ex VE:Ae}{H H1 H2:Hp}{h h1 h2 h':Heap}{a x e:Addr}{o:HO}
def Un.any (u:Un fs ex H H1 h h1) {b:Addr}{ob:Obj}(q:h.get? b=some ob) (n:H b=none) (hx:b∉ex):∃sl,h1.get? b=some { ob with slots:=sl }:=by
 by_cases hb:b∈fs
 ·exact u.slot b ob q n hb hx
 ·exact ⟨ob.slots,u.keep b ob q n hb hx⟩
def Un.kept (k:∀b u,h.get? b=some u->h'.get? b=some u):Un fs ex H H h h' :=
 ⟨λb ob q _ _ _=>k b ob q,λb ob q _ _ _=>⟨ob.slots,k b ob q⟩,λ_ _ _ n _=>n,λb ob q _=>⟨ob,k b ob q⟩,λ_ _ q=>q,λ_ _ _ q=>q,λ_ ps q=>⟨#[],by rw [q];simp⟩⟩
def Un.refl:Un fs ex H H h h:=Un.kept λ_ _ q=>q
def Un.laid (k:∀b u,h.get? b=some u->h'.get? b=some u) (hp:h.objs.size<=a) (hn:H a=none):Un fs ex H (upd H a o) h h' where
 keep:=λb u q _ _ _=>k b u q
 slot:=λb u q _ _ _=>⟨u.slots,k b u q⟩
 free:=λb u q n _=>by rw [yE (jb (jO (yA q) hp))];exact n
 there:=λb u q _=>⟨u,k b u q⟩
 tups:=λb xs q=>by rw [yE (ic q hn)];exact q
 frzs:=λb u xs q=>by rw [yE (ic q hn)];exact q
 tbls:=λb ps q=>⟨#[],by rw [yE (ic q hn),q];simp⟩
def Un.write (mu:pe (H x)) (he:e=x\/H e=some (.own x)) (k:∀b u,b≠e->h.get? b=some u->h'.get? b=some u) (nU:∃u,h'.get? e=some u):Un fs ex H (upd H x o) h h':=by
 have hx:∀b,H b=none->b≠x:=λb n z=>by subst z;rw [n] at mu;exact mu
 have hb:∀b,H b=none->b≠e:=λb n z=>by
  subst z
  rcases he with r|r
  ·exact hx b n r
  ·rw [n] at r;cases r
 have hm:∀b u,H b=some u->¬pe (some u)->b≠x:=λb u q nm z=>by subst z;rw [q] at mu;exact nm mu
 refine ⟨λb u q n _ _=>k b u (hb b n) q,λb u q n _ _=>⟨u.slots,k b u (hb b n) q⟩,λb u q n _=>by rw [yE (hx b n)];exact n,λb u q _=>?_,
  λb xs q=>by rw [yE (hm b _ q λz=>z)];exact q,λb u xs q=>by rw [yE (hm b _ q λz=>z)];exact q,λb ps q=>⟨#[],by rw [yE (hm b _ q λz=>z),q];simp⟩⟩
 by_cases hbe:b=e
 ·subst hbe;exact nU
 ·exact ⟨u,k b u hbe q⟩
end
def rF (h:Heap) (H:Hp):Ae:=(List.range h.objs.size).filter λa=>(H a).isSome
def fh (h:Heap) (H:Hp):Heap:=PySem.W.hideAll h (rF h H)
def Jl (h:Heap) (H:Hp):(fh h H).objs.size=h.objs.size:=PySem.W.hideAll_size _ _
def Jm {h:Heap}{H:Hp}{b:Addr}{o:Obj}(e:h.get? b=some o) (n:H b=none):(fh h H).get? b=some o :=
 PySem.W.hideAll_get _ e λhm=>by
  have q:(H b).isSome=true:=(List.mem_filter.mp hm).2
  rw [n] at q;simp at q
def Jn {h:Heap}{H:Hp}{b:Addr}{o:Obj}(e:(fh h H).get? b=some o):h.get? b=some o/\H b=none:=by
 have e':h.get? b=some o:=PySem.W.of_hideAll (rF h H) e
 refine ⟨e',?_⟩
 cases q:H b with
 | none=>rfl
 | some x =>
  have hm:b∈rF h H:=List.mem_filter.mpr ⟨gj.mpr (yA e'),by simp [q]⟩
  have z:(fh h H).get? b=none:=PySem.W.hideAll_none (rF h H) hm
  rw [z] at e;cases e
def pf (g h:Heap) (L:Addr):Ac:=(List.range h.objs.size).filterMap λa=>if a=L\/(g.get? a).isSome=true then none else (h.get? a).map λo=>(a,o)
def rest (g h:Heap) (L d:Addr):Ac:=(pf g h L).filter λp=>decide (p.1≠d)
structure Mod (K:PySem.W.Frag) (mg:Ab) (base:Heap):Prop where
 kin:K.In base
 glob:base.Ns mainGlobals mg
 blt:∃mb,base.Ns builtinsNs mb/\∀x:Str,x ≠ "__name__" -> mb x=bootBuiltins x
 nolimit:base.NoLimit
structure Cx where
 prog:Program
 w:World
 K:PySem.W.Frag
 mg:Ab
 base:Heap
 A:Around
 N:Ad
 s₀:Shared
 H₀:Hp
 env:Env
 outer:List Env
 stack:List Env
 ex:Ae
 fn:Str->Bool
 calm:Bool
 pn:Ac
 xe:Aa
def dc (l:List Env):Ae:=l.filterMap (·.frame)
abbrev Cx.fs (X:Cx):Ae:=dc X.outer
def rG (sc:Scope) (x:Str):Prop:=sc.names.lookup x=some .local\/sc.names.lookup x=some .cell\/sc.names.lookup x=some .free
def Loc (sc:Scope) (x:Str):Prop:=sc.names.lookup x=some .local\/sc.names.lookup x=some .cell
def Look (env:Env) (h:Heap) (m:Ab) (x:Str) (u:Value):Prop :=
 (env.kindOf x=some .local/\m x=some u)\/((env.kindOf x=some .cell\/env.kindOf x=some .free)/\∃c,env.cells.lookup x=some c/\h.IsCell c (some u))
structure Cx.Ok (X:Cx):Prop where
 mod:Mod X.K X.mg X.base
 kind:X.env.scope.kind=.function
 glob:X.env.globals=mainGlobals
 blt:X.env.builtins=builtinsNs
 above:X.s₀.heap.objs.size<=X.env.locals
 inj:∀x y c,X.env.cells.lookup x=some c->X.env.cells.lookup y=some c->x=y
 has:∀x,(X.env.kindOf x=some .cell\/X.env.kindOf x=some .free)->∃c,X.env.cells.lookup x=some c
 cab:∀x c,X.fn x=true->X.env.cells.lookup x=some c->X.s₀.heap.objs.size<=c
 hd:X.calm=true->X.A.handled=none
 frames:X.A.frames=some X.stack
 stk:X.stack=X.outer\/(X.stack=X.env::X.outer/\X.env.frame=some X.env.locals)
 exf:∀b∈X.ex,b≠X.env.locals/\∀x c,X.env.cells.lookup x=some c->c≠b
 bs:∀b o,X.base.get? b=some o->X.s₀.heap.get? b=some o/\X.H₀ b=none
 bsz:X.base.objs.size<=X.s₀.heap.objs.size
 noex:∀b o,X.base.get? b=some o->b∉X.ex
 exfs:∀b∈X.ex,b∉X.fs
 funs:X.s₀.heap.FunFrames X.base X.outer
 frf:∀b∈X.fs,X.H₀ b=none
structure Inv (X:Cx) (pins:Ac) (U:List (Option V)) (H:Hp) (s:Shared):Prop where
 ok:X.Ok
 os:s.os=X.s₀.os
 bare:AllBare s.gens
 base:Un X.fs X.ex X.H₀ H X.s₀.heap s.heap
 loc:∃m,s.heap.Ns X.env.locals m/\∀(i:Nat) (x:Str) (v:V),X.N[i]?=some x->U[i]?=some (some v)->rG X.env.scope x->∃u,RelV v u/\Look X.env s.heap m x u
 cell:∀x c,X.env.cells.lookup x=some c->∃v,s.heap.IsCell c v
 free:H X.env.locals=none
 freeC:∀x c,X.env.cells.lookup x=some c->H c=none
 pin:∀p∈X.pn++pins,s.heap.get? p.1=some p.2/\H p.1=none/\p.1≠X.env.locals/\p.1∉X.fs/\∀v,p.2.data ≠ .cell v
 hok:cf X.prog X.w H s.heap
 len:U.length=X.N.length
section
variable {X:Cx}{pins:Ac}{U:List (Option V)}{H H':Hp}{s:Shared}{h':Heap}
def Cx.Ok.nofr (ok:X.Ok) {b:Addr}{o:Obj}(e:X.base.get? b=some o):b∉X.fs:=λhb=>by
 have:=(ok.funs.mem hb).1
 rw [e] at this;cases this
def Inv.bs (I:Inv X pins U H s):∀b o,X.base.get? b=some o->s.heap.get? b=some o/\H b=none:=λb o e =>
 ⟨I.base.keep b o (I.ok.bs b o e).1 (I.ok.bs b o e).2 (I.ok.nofr e) (I.ok.noex b o e),I.base.free b o (I.ok.bs b o e).1 (I.ok.bs b o e).2 (I.ok.noex b o e)⟩
def Inv.bk (I:Inv X pins U H s):∀b o,X.base.get? b=some o->s.heap.get? b=some o:=λb o e=>(I.bs b o e).1
def Inv.mod (I:Inv X pins U H s):Mod X.K X.mg X.base:=I.ok.mod
def Inv.kIn (I:Inv X pins U H s):X.K.In s.heap:=I.ok.mod.kin.keeps I.bk
def Inv.fr (I:Inv X pins U H s):∃m,Fr X.base X.env.locals s.heap m :=
 let ⟨m,hn,_⟩:=I.loc
 ⟨m,hn,I.bk,ja I.ok.bsz I.ok.above⟩
def Inv.lt (I:Inv X pins U H s):X.env.locals<s.heap.objs.size:=let ⟨_,hn,_⟩:=I.loc;hn.lt
def Inv.sz (I:Inv X pins U H s):X.s₀.heap.objs.size<=s.heap.objs.size:=ja I.ok.above (Nat.le_of_lt I.lt)
def Inv.nofs (I:Inv X pins U H s) {a:Addr}(h:s.heap.objs.size<=a):a∉X.fs:=λhb=>by
 obtain ⟨_,o,ho,_⟩:=I.ok.funs.mem hb
 exact absurd (jO (yA ho) (ja I.sz h)) (Nat.lt_irrefl _)
def Inv.cne (I:Inv X pins U H s):∀x c,X.env.cells.lookup x=some c->c≠X.env.locals:=λx c e z=>by
 obtain ⟨v,o,ho,hd⟩:=I.cell x c e
 obtain ⟨m,⟨o',es,ep,ho',gk,_⟩,_⟩:=I.loc
 rw [z,ho'] at ho;cases ho;rw [gk] at hd;cases hd
def Inv.funs (I:Inv X pins U H s):s.heap.FunFrames X.base X.outer:=by
 have all:∀(l:List Env),(∀b∈dc l,b∈X.fs)->X.s₀.heap.FunFrames X.base l->s.heap.FunFrames X.base l:=by
  intro l
  induction l with
  | nil=>intro _ _;trivial
  | cons env r ih =>
   intro hs hl
   obtain ⟨hk,⟨L,o,hf,hn,ho,hd⟩,hr⟩:=hl
   have hL:L∈X.fs:=hs L (by unfold dc;rw [List.filterMap_cons,hf];exact y0)
   obtain ⟨sl,e⟩:=I.base.slot L o ho (I.ok.frf L hL) hL λz=>I.ok.exfs L z hL
   exact ⟨hk,⟨L,_,hf,hn,e,hd⟩,ih (λb hb=>hs b (by unfold dc;rw [List.filterMap_cons,hf];exact jm _ hb)) hr⟩
 exact all X.outer (λ_ hb=>hb) I.ok.funs
def Inv.stack (I:Inv X pins U H s):s.heap.FunFrames X.base X.stack:=by
 rcases I.ok.stk with e|⟨e,hf⟩
 ·rw [e];exact I.funs
 ·rw [e]
  obtain ⟨m,hn,_⟩:=I.loc
  refine .cons (by rw [I.ok.kind];decide) hf hn ?_ I.funs
  exact Heap.get?_none_of_le (ja I.ok.bsz I.ok.above)
def Inv.stkSub (I:Inv X pins U H s):∀b∈dc X.stack,b∈X.env.locals::X.fs:=λb hb=>by
 rcases I.ok.stk with e|⟨e,hf⟩
 ·rw [e] at hb;exact jm _ hb
 ·rw [e] at hb
  unfold dc at hb
  rw [List.filterMap_cons,hf] at hb
  exact hb
def Inv.stkFree (I:Inv X pins U H s):∀b∈dc X.stack,H b=none:=λb hb=>by
 rcases yC.mp (I.stkSub b hb) with e|hb
 ·rw [e];exact I.free
 ·obtain ⟨_,o,ho,_⟩:=I.ok.funs.mem hb
  exact I.base.free b o ho (I.ok.frf b hb) λz=>I.ok.exfs b z hb
def Inv.step {g':Array GenState}{t':Nat}{d':Drawn}{ch:Ae}(I:Inv X pins U H s)
  (ie:∀b∈ch,(b∈X.ex\/X.s₀.heap.objs.size<=b)/\b≠X.env.locals/\(∀x c,X.env.cells.lookup x=some c->c≠b)/\∀p∈X.pn++pins,p.1≠b)
  (keep:∀b o,b≠X.env.locals->b∉X.fs->b∉ch->s.heap.get? b=some o->H b=none->h'.get? b=some o)
  (slot:∀b o,b≠X.env.locals->b∈X.fs->b∉ch->s.heap.get? b=some o->H b=none->∃sl,h'.get? b=some { o with slots:=sl }) (free:∀b o,b∉ch->s.heap.get? b=some o->H b=none->H' b=none)
  (there:∀b o,b∉ch->s.heap.get? b=some o->∃o',h'.get? b=some o')
  (tups:∀b xs,H b=some (.tup xs)->H' b=some (.tup xs)) (frzs:∀b o u,H b=some (.frz o u)->H' b=some (.frz o u)) (tbls:∀b ps,H b=some (.tbl ps)->∃more,H' b=some (.tbl (ps++more)))
  (ns:∀m,s.heap.Ns X.env.locals m->h'.Ns X.env.locals m) (hok:cf X.prog X.w H' h') (hg:AllBare g') :
  Inv X pins U H' { s with heap:=h',gens:=g',drawn:=d',toks:=t' }:=by
 have Cc:∀b o,X.s₀.heap.get? b=some o->b≠X.env.locals:=λb o e=>jb (jO (yA e) I.ok.above)
 have ig:∀b o,X.s₀.heap.get? b=some o->b∉X.ex->b∉ch:=λb o e hx hb=>by
  rcases (ie b hb).1 with z|z
  ·exact hx z
  ·exact absurd (jO (yA e) z) (Nat.lt_irrefl _)
 have cellK:∀x c,X.env.cells.lookup x=some c->∀v,s.heap.IsCell c v->h'.IsCell c v:=λx c e v ⟨o,ho,hd⟩=>by
  have gn:c∉ch:=λz=>(ie c z).2.2.1 x c e rfl
  by_cases hc:c∈X.fs
  ·obtain ⟨sl,q⟩:=slot c o (I.cne x c e) hc gn ho (I.freeC x c e)
   exact ⟨_,q,hd⟩
  ·exact ⟨o,keep c o (I.cne x c e) hc gn ho (I.freeC x c e),hd⟩
 refine ⟨I.ok,I.os,hg,⟨λb o e n hb hx=>?_,λb o e n hb hx=>?_,λb o e n hx=>?_,λb o e hx=>?_,λb xs e=>tups b xs (I.base.tups b xs e),λb o xs e=>frzs b o xs (I.base.frzs b o xs e),λb ps e=>?_⟩,?_,λx c e=>?_,?_,λx c e=>?_,λp hp=>?_,hok,I.len⟩
 ·exact keep b o (Cc b o e) hb (ig b o e hx) (I.base.keep b o e n hb hx) (I.base.free b o e n hx)
 ·obtain ⟨sl,e1⟩:=I.base.slot b o e n hb hx
  obtain ⟨Cd,e2⟩:=slot b _ (Cc b o e) hb (ig b o e hx) e1 (I.base.free b o e n hx)
  exact ⟨Cd,e2⟩
 ·obtain ⟨o',e1⟩:=I.base.there b o e hx
  exact free b o' (ig b o e hx) e1 (I.base.free b o e n hx)
 ·obtain ⟨o',e1⟩:=I.base.there b o e hx
  exact there b o' (ig b o e hx) e1
 ·obtain ⟨m1,e1⟩:=I.base.tbls b ps e
  obtain ⟨m2,e2⟩:=tbls b _ e1
  exact ⟨m1++m2,by rw [e2,Array.append_assoc]⟩
 ·obtain ⟨m,hn,hl⟩:=I.loc
  refine ⟨m,ns m hn,λi x v e1 e2 e3=>?_⟩
  obtain ⟨u,r,l⟩:=hl i x v e1 e2 e3
  refine ⟨u,r,?_⟩
  rcases l with l|⟨k,c,e,z⟩
  ·exact .inl l
  ·exact .inr ⟨k,c,e,cellK x c e _ z⟩
 ·obtain ⟨v,z⟩:=I.cell x c e
  exact ⟨v,cellK x c e v z⟩
 ·obtain ⟨m,⟨o,_,_,ho,_⟩,_⟩:=I.loc
  exact free _ o (λz=>(ie _ z).2.1 rfl) ho I.free
 ·obtain ⟨v,o,ho,hd⟩:=I.cell x c e
  exact free c o (λz=>(ie c z).2.2.1 x c e rfl) ho (I.freeC x c e)
 ·obtain ⟨e,n,ne,nf,d⟩:=I.pin p hp
  have gn:p.1∉ch:=λz=>(ie p.1 z).2.2.2 p hp rfl
  exact ⟨keep p.1 p.2 ne nf gn e n,free p.1 p.2 gn e n,ne,nf,d⟩
def Inv.un {t':Nat}(I:Inv X pins U H s) (u:Un X.fs [] H H' s.heap h') (hok:cf X.prog X.w H' h'):Inv X pins U H' { s with heap:=h',toks:=t' }:=by
 obtain ⟨m,⟨o,es,ep,ho,r⟩,_⟩:=id I.loc
 obtain ⟨sl,hL⟩:=u.any ho I.free (by simp)
 exact I.step (g':=s.gens) (d':=s.drawn) (ch:=[]) (λ_ z=>nomatch z) (λb o _ hb _ e n=>u.keep b o e n hb (by simp)) (λb o _ hb _ e n=>u.slot b o e n hb (by simp)) (λb o _ e n=>u.free b o e n (by simp)) (λb o _ e=>u.there b o e (by simp)) u.tups u.frzs u.tbls (λm' hm=>by
  obtain ⟨o',u7,u9,ho',r'⟩:=hm
  rw [ho] at ho';cases ho'
  exact ⟨_,u7,u9,hL,r'⟩) hok I.bare
def Inv.call {g':Array GenState}{t':Nat}{d':Drawn}{ch:Ae}(I:Inv X pins U H s) (u:Un (dc X.stack) ch H H' s.heap h') (hok:cf X.prog X.w H' h') (hg:AllBare g')
  (ie:∀b∈ch,(b∈X.ex\/X.s₀.heap.objs.size<=b)/\b≠X.env.locals/\(∀x c,X.env.cells.lookup x=some c->c≠b)/\∀p∈X.pn++pins,p.1≠b) :
  Inv X pins U H' { s with heap:=h',gens:=g',drawn:=d',toks:=t' }:=by
 obtain ⟨m,⟨o,es,ep,ho,r⟩,_⟩:=id I.loc
 obtain ⟨sl,hL⟩:=u.any ho I.free λz=>(ie _ z).2.1 rfl
 exact I.step (ch:=ch) ie (λb o hL hb hc e n=>u.keep b o e n (λz=>(yC.mp (I.stkSub b z)).elim hL hb) hc) (λb o _ _ hc e n=>u.any e n hc) (λb o hc e n=>u.free b o e n hc) (λb o hc e=>u.there b o e hc) u.tups u.frzs u.tbls (λm' hm=>by
  obtain ⟨o',u7,u9,ho',r'⟩:=hm
  rw [ho] at ho';cases ho'
  exact ⟨_,u7,u9,hL,r'⟩) hok hg
def Inv.turned {t':Nat}{it:Addr}(I:Inv X pins U H s) (k:∀b o,b≠it->s.heap.get? b=some o->h'.get? b=some o) (hn:H it=none) (hL:it≠X.env.locals)
  (h1:it∈X.ex\/X.s₀.heap.objs.size<=it) (h2:∀x c,X.env.cells.lookup x=some c->c≠it) (h3:∀p∈X.pn++pins,p.1≠it):Inv X pins U H { s with heap:=h',toks:=t' }:=by
 have Ce:∀b u,H b=some u->b≠it:=λb u e z=>by rw [z,hn] at e;cases e
 refine I.step (g':=s.gens) (d':=s.drawn) (ch:=[it]) (λb hb=>?_) (λb o _ _ hc e _=>k b o (λz=>hc (by simp [z])) e) (λb o _ _ hc e _=>⟨o.slots,k b o (λz=>hc (by simp [z])) e⟩) (λ_ _ _ _ n=>n)
  (λb o hc e=>⟨o,k b o (λz=>hc (by simp [z])) e⟩) (λ_ _ e=>e) (λ_ _ _ e=>e) (λb ps e=>⟨#[],by rw [e];simp⟩) (λm hm=>?_) (λb u e=>?_) I.bare
 ·have e:b=it:=by simpa using hb
  subst e
  exact ⟨h1,hL,h2,h3⟩
 ·obtain ⟨o,es,ep,ho,r⟩:=hm
  exact ⟨o,es,ep,k _ o (yT hL) ho,r⟩
 ·refine (I.hok b u e).stay (λc v hc q=>k c v ?_ q) (λ_ q=>q) λ_ _ q=>q
  rcases hc with z|z
  ·rw [z];exact Ce b u e
  ·exact Ce c _ z
def Inv.tok (I:Inv X pins U H s) (t:Nat):Inv X pins U H { s with toks:=t }:=I.un (h':=s.heap) (t':=t) Un.refl I.hok
def Inv.kept {t':Nat}(I:Inv X pins U H s) (k:∀b u,s.heap.get? b=some u->h'.get? b=some u):Inv X pins U H { s with heap:=h',toks:=t' }:=I.un (Un.kept k) (I.hok.kept k)
def Inv.laid {a:Addr}{o:HO}{t':Nat}(I:Inv X pins U H s) (k:∀b u,s.heap.get? b=some u->h'.get? b=some u) (hp:s.heap.objs.size<=a) (new:aR X.prog X.w (upd H a o) h' a o) :
  Inv X pins U (upd H a o) { s with heap:=h',toks:=t' }:=I.un (Un.laid k hp (I.hok.fresh hp)) (I.hok.laid k hp new)
def Inv.write {x e:Addr}{o:HO}{t':Nat}(I:Inv X pins U H s) (mu:pe (H x)) (he:e=x\/H e=some (.own x)) (k:∀b u,b≠e->s.heap.get? b=some u->h'.get? b=some u) (nU:∃u,h'.get? e=some u)
  (new:aR X.prog X.w (upd H x o) h' x o):Inv X pins U (upd H x o) { s with heap:=h',toks:=t' }:=I.un (Un.write mu he k nU) (I.hok.write mu he k nU new)
def Inv.weak {ai:List (Option V)}(I:Inv X pins U H s) (hl:ai.length=U.length) (w:∀(i:Nat) v,ai[i]?=some (some v)->U[i]?=some (some v)):Inv X pins ai H s :=
 ⟨I.ok,I.os,I.bare,I.base,let ⟨m,hn,Jo⟩:=I.loc;⟨m,hn,λi x v e1 e2 e3=>Jo i x v e1 (w i v e2) e3⟩,I.cell,I.free,I.freeC,I.pin,I.hok,hl.trans I.len⟩
def Inv.pins_of {pins':Ac}(I:Inv X pins U H s) (h:∀p∈pins',s.heap.get? p.1=some p.2/\H p.1=none/\p.1≠X.env.locals/\p.1∉X.fs/\∀v,p.2.data ≠ .cell v):Inv X pins' U H s :=
 ⟨I.ok,I.os,I.bare,I.base,I.loc,I.cell,I.free,I.freeC,λp hp=>(wu.mp hp).elim (λz=>I.pin p (gh _ z)) (h p),I.hok,I.len⟩
def Cf {N:Ad}(hN:N.Nodup) {i j:Nat}{x:Str}(a:N[i]?=some x) (b:N[j]?=some x):i=j:=by
 obtain ⟨h1,e1⟩:=yt.mp a
 obtain ⟨h2,e2⟩:=yt.mp b
 exact (List.getElem_inj hN).mp (e1.trans e2.symm)
def Jp {M:Model}{A:Around}{E:Aa}{i:Nat}{x:Str}{v:V}{u:Value}{Q:Unit->Shared->Prop}(I:Inv X pins U H s) (hN:X.N.Nodup) (hi:X.N[i]?=some x) (hx:Loc X.env.scope x) (r:RelV v u)
  (h:∀s',Inv X pins (U.set i (some v)) H s'->(∃a,Heap.SameBut a s.heap s'.heap/\(a=X.env.locals\/X.env.cells.lookup x=some a))->Q () s') (hf:X.fn x=true\/X.env.scope.names.lookup x=some .local:=by first|exact .inl rfl|exact .inr rfl|assumption):wpAny M A (storeName X.env x u) Q E s:=by
 obtain ⟨m,hn,hl⟩:=id I.loc
 have Cg:(X.env.scope.kind == .class||(X.env.scope.kind == .module&&X.env.locals != X.env.globals))=false:=by rw [I.ok.kind];rfl
 have aJ:i<U.length:=by rw [I.len];exact (yt.mp hi).1
 have cne:=I.cne
 have tracked:∀{a:Addr} {h':Heap},(∃o,s.heap.get? a=some o/\H a=none)->Heap.SameBut a s.heap h'->cf X.prog X.w H h':=λ{a h'} ha hs b ob e=>by
  obtain ⟨_,_,iV⟩:=ha
  refine (I.hok b ob e).stay (λc w' hc q=>(hs.2 c ?_).trans q) (λ_ q=>q) λ_ _ q=>q
  rintro rfl
  rcases hc with rfl|hc
  ·rw [iV] at e;cases e
  ·rw [iV] at hc;cases hc
 rcases hx with hk|hk
 ·refine wpAny_storeName_local hk hn (λh' lT hs=>?_) Cg
  obtain ⟨oL,_,_,Jq,_⟩:=id hn
  refine h _ ⟨I.ok,I.os,I.bare,⟨λb o e n hb hx=>?_,λb o e n hb hx=>?_,I.base.free,λb o e hx=>?_,I.base.tups,I.base.frzs,I.base.tbls⟩,⟨_,lT,λj y v' e1 e2 e3=>?_⟩,λy c e=>?_,I.free,I.freeC,λp hp=>?_,tracked ⟨oL,Jq,I.free⟩ hs,by simpa using I.len⟩ ⟨_,hs,.inl rfl⟩
  ·exact (hs.2 b (jb (jO (yA e) I.ok.above))).trans (I.base.keep b o e n hb hx)
  ·obtain ⟨sl,e1⟩:=I.base.slot b o e n hb hx
   exact ⟨sl,(hs.2 b (jb (jO (yA e) I.ok.above))).trans e1⟩
  ·obtain ⟨o',e1⟩:=I.base.there b o e hx
   exact ⟨o',(hs.2 b (jb (jO (yA e) I.ok.above))).trans e1⟩
  ·by_cases hj:j=i
   ·subst hj
    rw [hi] at e1;cases e1
    rw [je aJ] at e2
    cases e2
    exact ⟨u,r,.inl ⟨hk,by simp⟩⟩
   ·rw [yo (yT hj)] at e2
    obtain ⟨u',r',q⟩:=hl j y v' e1 e2 e3
    refine ⟨u',r',?_⟩
    rcases q with ⟨k,e⟩|⟨k,c,e,z⟩
    ·refine .inl ⟨k,?_⟩
     have:y≠x:=λe=>hj (Cf hN e1 (e▸hi))
     simp [this,e]
    ·exact .inr ⟨k,c,e,z.sameBut hs (cne y c e)⟩
  ·obtain ⟨w',z⟩:=I.cell y c e
   exact ⟨w',z.sameBut hs (cne y c e)⟩
  ·obtain ⟨e,n,ne,nf,d⟩:=I.pin p hp
   exact ⟨(hs.2 p.1 ne).trans e,n,ne,nf,d⟩
 ·have u_:X.fn x=true:=by
   rcases hf with z|z
   ·exact z
   ·rw [z] at hk;cases hk
  obtain ⟨c,hc⟩:=I.ok.has x (.inl hk)
  obtain ⟨w',z⟩:=I.cell x c hc
  refine wpAny_storeName_cell I.ok.kind hk hc z (λh' cw hs=>?_)
  obtain ⟨oc,Ci,Cj⟩:=id z
  refine h { s with heap:=h' } ⟨I.ok,I.os,I.bare,⟨λb o e n hb hx=>?_,λb o e n hb hx=>?_,I.base.free,λb o e hx=>?_,I.base.tups,I.base.frzs,I.base.tbls⟩,⟨m,hn.sameBut hs (yT (cne x c hc)),λj y v' e1 e2 e3=>?_⟩,λy c' e=>?_,I.free,I.freeC,λp hp=>?_,tracked ⟨oc,Ci,I.freeC x c hc⟩ hs,by simpa using I.len⟩ ⟨c,hs,.inr hc⟩
  ·exact (hs.2 b (jb (jO (yA e) (I.ok.cab x c u_ hc)))).trans (I.base.keep b o e n hb hx)
  ·obtain ⟨sl,e1⟩:=I.base.slot b o e n hb hx
   exact ⟨sl,(hs.2 b (jb (jO (yA e) (I.ok.cab x c u_ hc)))).trans e1⟩
  ·obtain ⟨o',e1⟩:=I.base.there b o e hx
   exact ⟨o',(hs.2 b (jb (jO (yA e) (I.ok.cab x c u_ hc)))).trans e1⟩
  ·by_cases hj:j=i
   ·subst hj
    rw [hi] at e1;cases e1
    rw [je aJ] at e2
    cases e2
    exact ⟨u,r,.inr ⟨.inl hk,c,hc,cw⟩⟩
   ·rw [yo (yT hj)] at e2
    obtain ⟨u',r',q⟩:=hl j y v' e1 e2 e3
    refine ⟨u',r',?_⟩
    rcases q with q|⟨k,c',e,z'⟩
    ·exact .inl q
    ·refine .inr ⟨k,c',e,z'.sameBut hs ?_⟩
     rintro rfl
     exact hj (Cf hN e1 (I.ok.inj _ _ _ e hc▸hi))
  ·by_cases nV:c'=c
   ·subst nV;exact ⟨_,cw⟩
   ·obtain ⟨w2,z2⟩:=I.cell y c' e
    exact ⟨w2,z2.sameBut hs nV⟩
  ·obtain ⟨e,n,ne,nf,d⟩:=I.pin p hp
   refine ⟨(hs.2 p.1 ?_).trans e,n,ne,nf,d⟩
   intro q
   rw [q,Ci] at e
   have q':oc=p.2:=Option.some.inj e
   exact d w' (by rw [<-q'];exact Cj)
def vb {M:Model}{A:Around}{E:Aa}{i:Nat}{x:Str}{v:V}{u:Value}{Q:Unit->Shared->Prop}(I:Inv X pins U H s) (hN:X.N.Nodup) (hi:X.N[i]?=some x) (hx:Loc X.env.scope x) (r:RelV v u)
  (h:∀s',Inv X pins (U.set i (some v)) H s'->Q () s') (hf:X.fn x=true\/X.env.scope.names.lookup x=some .local:=by first|exact .inl rfl|exact .inr rfl|assumption):wpAny M A (storeName X.env x u) Q E s :=
 Jp I hN hi hx r (λs' I' _=>h s' I') hf
def Inv.call' {s':Shared}{ch:Ae}(I:Inv X pins U H s) (ho:s'.os=s.os) (u:Un (dc X.stack) ch H H' s.heap s'.heap) (hok:cf X.prog X.w H' s'.heap) (hg:AllBare s'.gens)
  (ie:∀b∈ch,(b∈X.ex\/X.s₀.heap.objs.size<=b)/\b≠X.env.locals/\(∀x c,X.env.cells.lookup x=some c->c≠b)/\∀p∈X.pn++pins,p.1≠b):Inv X pins U H' s':=by
 obtain ⟨h',g',d',t',o'⟩:=s'
 have e:o'=s.os:=ho
 subst e
 exact I.call (g':=g') (t':=t') (d':=d') u hok hg ie
end
abbrev XK:=Value->Option Addr->Hp->Prop
abbrev St:=List (Option V)
abbrev VK:=V->Hp->Prop
abbrev TE:=St->Hp->VK->Prop
abbrev TT:=St->Hp->(Bool->Hp->Prop)->Prop
abbrev TA:=St->Hp->(List V->Hp->Prop)->Prop
structure Ends where
 nx:St->Hp->Prop
 rt:VK
 bk:St->Hp->Prop:=λ_ _=>False
 ct:St->Hp->Prop:=λ_ _=>False
abbrev TS:=Ends->St->Hp->Prop
def EP (X:Cx) (pins:Ac) (U:St) (Q:VK) (u:Value) (s':Shared):Prop:=∃v H',Inv X pins U H' s'/\RelV v u/\Q v H'
def TP (X:Cx) (pins:Ac) (U:St) (Q:Bool->Hp->Prop) (b:Bool) (s':Shared):Prop:=∃H',Inv X pins U H' s'/\Q b H'
def AP (X:Cx) (pins:Ac) (U:St) (Q:List V->Hp->Prop) (us:Af) (s':Shared):Prop:=∃vs H',Inv X pins U H' s'/\Vals vs us/\Q vs H'
def SP (X:Cx) (pins:Ac) (D:Ends) (f:Flow) (s':Shared):Prop :=
 match f with
 | .next=>∃ai H',Inv X pins ai H' s'/\D.nx ai H'
 | .brk=>∃ai H',Inv X pins ai H' s'/\D.bk ai H'
 | .cont=>∃ai H',Inv X pins ai H' s'/\D.ct ai H'
 | .ret u=>∃v ai H',Inv X pins ai H' s'/\RelV v u/\D.rt v H'
def PE (X:Cx) (e:Expr) (t:TE):Prop :=
 ∀(pins:Ac) (s:Shared) (U:St) (H:Hp) (Q:VK),Inv X pins U H s->t U H Q->wpAny (model X.prog X.w) X.A (eval e X.env) (EP X pins U Q) X.xe s
def PT (X:Cx) (e:Expr) (t:TT):Prop :=
 ∀(pins:Ac) (s:Shared) (U:St) (H:Hp) (Q:Bool->Hp->Prop),Inv X pins U H s->t U H Q->wpAny (model X.prog X.w) X.A (isTrue e X.env (eval e X.env)) (TP X pins U Q) X.xe s
def PW (X:Cx) (e:Expr) (t:TT):Prop :=
 ∀(whole:Sem Value) (pins:Ac) (s:Shared) (U:St) (H:Hp) (Q:Bool->Hp->Prop),Inv X pins U H s->t U H Q->wpAny (model X.prog X.w) X.A (isTrue e X.env whole) (TP X pins U Q) X.xe s
def PW.pt {X:Cx}{e:Expr}{t:TT}(h:PW X e t):PT X e t:=h _
def PA (X:Cx) (es:List Expr) (t:TA):Prop :=
 ∀(pos:Pos) (pins:Ac) (s:Shared) (U:St) (H:Hp) (Q:List V->Hp->Prop),Inv X pins U H s->t U H Q->wpAny (model X.prog X.w) X.A (spliced (backTo pos (starEach es X.env))) (AP X pins U Q) X.xe s
def PS (X:Cx) (st:Stmt) (t:TS):Prop :=
 ∀(pins:Ac) (s:Shared) (U:St) (H:Hp) (D:Ends),Inv X pins U H s->t D U H->wpAny (model X.prog X.w) X.A (exec st X.env) (SP X pins D) X.xe s
def de (X:Cx) (st:List Stmt) (t:TS):Prop :=
 ∀(pins:Ac) (s:Shared) (U:St) (H:Hp) (D:Ends),Inv X pins U H s->t D U H->wpAny (model X.prog X.w) X.A (execs st X.env) (SP X pins D) X.xe s
def aP {α:Type}{t:Sem α}{Q Q':α->Shared->Prop}{M:Model}{A:Around}{E:Aa}{s:Shared}(h:wpAny M A t Q E s) (hQ:∀a s,Q a s->Q' a s):wpAny M A t Q' E s:=jX h hQ λ_ _ x=>x
section
variable {X:Cx}
def Ck (i:Nat):TE:=λU H Q=>∃v,U[i]?=some (some v)/\Q v H
def tC (v:V):TE:=λ_ H Q=>Q v H
def Cm {i:Nat} {x:Str} {pos:Pos} (hN:X.N[i]?=some x) (hv:rG X.env.scope x) (hd:(x==("__debug__" : Str))=false:=by decide) (fH:(x==("__classdict__" : Str))=false:=by decide):PE X (.Name x pos) (Ck i):=by
 intro pins s U H Q I h
 obtain ⟨v,e,h⟩:=h
 obtain ⟨m,hn,hl⟩:=I.loc
 obtain ⟨u,r,l⟩:=hl i x v hN e hv
 have fin:EP X pins U Q u s:=⟨v,H,I,r,h⟩
 rcases l with ⟨hk,hm⟩|⟨hk,c,hc,fI⟩
 ·exact wpAny_Name (wpAny_loadName_local I.ok.kind hk hn hm fin) hd
 ·rcases hk with hk|hk
  ·exact wpAny_Name (wpAny_loadName_cell I.ok.kind hk hc fI fin) hd
  ·exact wpAny_Name (wpAny_loadName_free I.ok.kind hk hc fI fin fH) hd
def Jr {i j pos}:PE X (.Constant (.int i) j pos) (tC (.int i)):=λ_ _ _ H _ I h=>wpAny_Constant_int ⟨.int i,H,I.tok _,⟨_,rfl⟩,h⟩
def Js {b j pos}:PE X (.Constant (.bool b) j pos) (tC (.bl b)):=λ_ _ _ H _ I h=>Constant_bool ⟨.bl b,H,I,rfl,h⟩
def Jt {j pos}:PE X (.Constant .none j pos) (tC .non):=λ_ _ _ H _ I h=>Constant_none ⟨.non,H,I,rfl,h⟩
def Ju {x j pos}:PE X (.Constant (.str x) j pos) (tC (.str x)):=λ_ _ _ H _ I h=>Calls.Constant_str ⟨.str x,H,I.tok _,⟨_,rfl⟩,h⟩
def Gl (X:Cx) (x:Str):Prop:=X.env.kindOf x=some .globalImplicit
def Cn {E:Aa}{pins:Ac}{s:Shared}{U:St}{H:Hp}{x:Str}{u:Value}{pos:Pos}{Q:Aa}(I:Inv X pins U H s) (hg:Gl X x) (hm:X.mg x=some u) (h:Q u s)
  (hd:(x==("__debug__" : Str))=false:=by decide):wpAny (model X.prog X.w) X.A (eval (.Name x pos) X.env) Q E s :=
 Calls.Name_function_global I.ok.kind hg (Calls.loadGlobal_global (by rw [I.ok.glob];exact I.mod.glob.keeps I.bk) hm h) hd
def kM {E:Aa}{pins:Ac}{s:Shared}{U:St}{H:Hp}{x:Str}{u:Value}{pos:Pos}{Q:Aa}(I:Inv X pins U H s) (hg:Gl X x) (hm:X.mg x=none) (hv:bootBuiltins x=some u) (h:Q u s)
  (hn:x ≠ "__name__" := by decide) (hd:(x==("__debug__" : Str))=false:=by decide):wpAny (model X.prog X.w) X.A (eval (.Name x pos) X.env) Q E s:=by
 obtain ⟨mb,h1,h2⟩:=I.mod.blt
 exact Calls.Name_function_global I.ok.kind hg (Calls.loadGlobal_builtin (by rw [I.ok.glob];exact I.mod.glob.keeps I.bk) hm (by rw [I.ok.blt];exact h1.keeps I.bk) ((h2 x hn).trans hv) h) hd
def Jv {x:Str} {v:V} {u:Value} {pos:Pos} (hg:Gl X x) (hm:X.mg x=none) (hv:bootBuiltins x=some u) (r:RelV v u) (hn:x ≠ "__name__" := by decide) (hd:(x==("__debug__" : Str))=false:=by decide):PE X (.Name x pos) (tC v) :=
 λ_ _ _ H _ I h=>kM I hg hm hv ⟨v,H,I,r,h⟩ hn hd
variable {a b:Expr}{ta tb:TE}{pos:Pos}
def tB (t:TE):TT:=λU H Q=>t U H λx H1=>∃c,x=.bl c/\Q c H1
def Jw {e:Expr}{t:TE}(h:PE X e t) (he:∀whole,isTrue e X.env whole=(do let v <-whole;standAt e.pos;holding [v] (truthy v)):=by intro _;rfl):PT X e (tB t):=by
 intro pins s U H Q I hw
 refine isTrue_plain (aP (h pins s U H _ I hw) λv s1 ⟨x,H1,I1,r1,q1⟩=>?_) (he _)
 obtain ⟨d,rfl,q⟩:=q1
 cases r1
 exact gg ⟨H1,I1,q⟩
variable {tA rH:TT}{rest:List Expr}
def Jx (t u:TT):TT:=λU H Q=>t U H λc H1=>if c=true then u U H1 Q else Q false H1
def Jy (t u:TT):TT:=λU H Q=>t U H λc H1=>if c=true then Q true H1 else u U H1 Q
def Jz (t:TT):TT:=λU H Q=>t U H λc H1=>Q (!c) H1
def JA (ha:PT X a tA):PW X (.BoolOp .And [a] pos) tA:=by
 intro wh pins s U H Q I h
 refine isTrue_and (aP (ha pins s U H Q I h) λc s1 e=>?_)
 cases c with
 | true=>exact isTrue_and_nil e
 | false=>exact e
def JB (ha:PT X a tA):PW X (.BoolOp .Or [a] pos) tA:=by
 intro wh pins s U H Q I h
 refine isTrue_or (aP (ha pins s U H Q I h) λc s1 e=>?_)
 cases c with
 | false=>exact isTrue_or_nil e
 | true=>exact e
def JC (ha:PT X a tA) (hb:PW X (.BoolOp .And (b::rest) pos) rH):PW X (.BoolOp .And (a::b::rest) pos) (Jx tA rH):=by
 intro wh pins s U H Q I h
 refine isTrue_and (aP (ha pins s U H _ I h) λc s1 ⟨H1,I1,q1⟩=>?_)
 cases c with
 | true=>exact hb wh pins s1 U H1 Q I1 q1
 | false=>exact ⟨H1,I1,q1⟩
def JD (ha:PT X a tA) (hb:PW X (.BoolOp .Or (b::rest) pos) rH):PW X (.BoolOp .Or (a::b::rest) pos) (Jy tA rH):=by
 intro wh pins s U H Q I h
 refine isTrue_or (aP (ha pins s U H _ I h) λc s1 ⟨H1,I1,q1⟩=>?_)
 cases c with
 | true=>exact ⟨H1,I1,q1⟩
 | false=>exact hb wh pins s1 U H1 Q I1 q1
def JE (ha:PT X a tA):PT X (.UnaryOp .Not a pos) (Jz tA):=by
 intro pins s U H Q I h
 exact isTrue_not (ha pins s U H (λc H1=>Q (!c) H1) I h)
def JF (ta tb:TE):TE:=λU H Q=>ta U H λx H1=>∃c,x=.bl c/\if c=true then tb U H1 Q else Q (.bl false) H1
def JG (ta tb:TE):TE:=λU H Q=>ta U H λx H1=>∃c,x=.bl c/\if c=true then Q (.bl true) H1 else tb U H1 Q
def JH (ta:TE):TE:=λU H Q=>ta U H λx H1=>∃c,x=.bl c/\Q (.bl (!c)) H1
def JI {op}{t:TE}(h:PE X a t):PE X (.BoolOp op [a] pos) t:=λpins s U H Q I hw=>BoolOp_one (h pins s U H Q I hw)
def JJ (ha:PE X a ta) (hb:PE X (.BoolOp .And (b::rest) pos) tb):PE X (.BoolOp .And (a::b::rest) pos) (JF ta tb):=by
 intro pins s U H Q I h
 refine BoolOp_and (aP (ha pins s U H _ I h) λv s1 ⟨x,H1,I1,r1,q1⟩=>?_)
 obtain ⟨c,rfl,q1⟩:=q1
 cases r1
 refine gg ?_
 cases c with
 | true=>exact hb pins s1 U H1 Q I1 q1
 | false=>exact ⟨.bl false,H1,I1,rfl,q1⟩
def JK (ha:PE X a ta) (hb:PE X (.BoolOp .Or (b::rest) pos) tb):PE X (.BoolOp .Or (a::b::rest) pos) (JG ta tb):=by
 intro pins s U H Q I h
 refine BoolOp_or (aP (ha pins s U H _ I h) λv s1 ⟨x,H1,I1,r1,q1⟩=>?_)
 obtain ⟨c,rfl,q1⟩:=q1
 cases r1
 refine gg ?_
 cases c with
 | false=>exact hb pins s1 U H1 Q I1 q1
 | true=>exact ⟨.bl true,H1,I1,rfl,q1⟩
def JL (ha:PE X a ta):PE X (.UnaryOp .Not a pos) (JH ta):=by
 intro pins s U H Q I h
 refine UnaryOp_ (aP (ha pins s U H _ I h) λv s1 ⟨x,H1,I1,r1,q1⟩=>?_)
 obtain ⟨c,rfl,q1⟩:=q1
 cases r1
 exact not_of (gg ⟨.bl (!c),H1,I1,rfl,q1⟩)
end
def aQ (K:PySem.W.Frag) (H:Hp) (a:Addr) (xs:List V):Prop :=
 Rd H a (.lst xs) \/
  ∃(o:Obj) (its:Array Value) (n:Nat),K.lookup a=some o/\o.cls=.type "list" /\ o.dict=none/\o.data=.seq its n/\its.size<=sizeLine/\Vals xs its.toList
def aW (K:PySem.W.Frag) (H:Hp) (a:Addr) (xs:List V):Prop :=
 Rd H a (.tup xs) \/
  ∃(o:Obj) (its:Array Value) (n:Nat),K.lookup a=some o/\o.cls=.type "tuple" /\ o.data=.seq its n/\its.size<=sizeLine/\Vals xs its.toList
def Co:Value->Option V
 | .none=>some .non
 | .bool b=>some (.bl b)
 | .int i _=>some (.int i)
 | .str x _=>some (.str x)
 | .bytes b _=>some (.byt b)
 | .float b _=>some (.flt b)
 | .ref a=>some (.ref a)
 | .type n=>some (.ty n)
 | _=>none
def RelV.abs {x:V}{u:Value}(r:RelV x u):Co u=some x:=by
 cases x with
 | non=>cases r;rfl
 | bl _=>cases r;rfl
 | int _=>obtain ⟨t,rfl⟩:=r;rfl
 | str _=>obtain ⟨t,rfl⟩:=r;rfl
 | byt _=>obtain ⟨t,rfl⟩:=r;rfl
 | flt _=>obtain ⟨t,rfl⟩:=r;rfl
 | ref _=>cases r;rfl
 | ty _=>cases r;rfl
def RelV.inj {x y:V}{u:Value}(r:RelV x u) (q:RelV y u):x=y:=Option.some.inj (r.abs.symm.trans q.abs)
theorem Vals.inj:∀{xs ys:List V}{us:Af},Vals xs us->Vals ys us->xs=ys
 | _,_,_,.nil,.nil=>rfl
 | _,_,_,.cons r t,.cons r' t'=>by rw [r.inj r',Vals.inj t t']
section
variable {X:Cx}{pins:Ac}{U:St}{H:Hp}{s:Shared}{a:Addr}{xs ys:List V}
def aQ.of {K:PySem.W.Frag}(h:H a=some (.lst xs)):aQ K H a xs:=.inl (.inl h)
def aW.of {K:PySem.W.Frag}(h:H a=some (.tup xs)):aW K H a xs:=.inl (.inl h)
theorem Inv.list (I:Inv X pins U H s) (h:aQ X.K H a xs):∃its:Af,Vals xs its/\PlainL s.heap a its.toArray/\xs.length<=sizeLine:=by
 rcases h with h|⟨o,its,n,hk,hc,hd,hs,hz,r⟩
 ·obtain ⟨z,its,n,r,e⟩:=h.ok I.hok
  exact ⟨its,r,⟨_,n,e,rfl,rfl,rfl⟩,z⟩
 ·refine ⟨its.toList,r,⟨o,n,I.kIn a o hk,hc,hd,by simpa using hs⟩,?_⟩
  have e:=r.length
  simp only [Array.length_toList] at e
  omega
def Inv.tuple (I:Inv X pins U H s) (h:aW X.K H a xs):∃its:Af,Vals xs its/\IsTup s.heap a its.toArray/\xs.length<=sizeLine:=by
 rcases h with h|⟨o,its,n,hk,hc,hs,hz,r⟩
 ·obtain ⟨z,its,r,p⟩:=h.ok I.hok
  exact ⟨its,r,p,z⟩
 ·refine ⟨its.toList,r,⟨o,I.kIn a o hk,hc,n,by simpa using hs⟩,?_⟩
  have e:=r.length
  simp only [Array.length_toList] at e
  omega
def Inv.list_inj (I:Inv X pins U H s) (h:aQ X.K H a xs) (h':aQ X.K H a ys):xs=ys:=by
 obtain ⟨its,r,⟨o,n,e,_,_,d⟩,_⟩:=I.list h
 obtain ⟨its',r',⟨o',n',e',_,_,d'⟩,_⟩:=I.list h'
 rw [e] at e';cases e'
 rw [d] at d'
 injection d' with d1 _
 have:its=its':=by simpa using congrArg Array.toList d1
 subst this
 exact r.inj r'
def Inv.tuple_inj (I:Inv X pins U H s) (h:aW X.K H a xs) (h':aW X.K H a ys):xs=ys:=by
 obtain ⟨its,r,⟨o,e,_,n,d⟩,_⟩:=I.tuple h
 obtain ⟨its',r',⟨o',e',_,n',d'⟩,_⟩:=I.tuple h'
 rw [e] at e';cases e'
 rw [d] at d'
 injection d' with d1 _
 have:its=its':=by simpa using congrArg Array.toList d1
 subst this
 exact r.inj r'
end
abbrev Cx.wish (X:Cx) (E:Aa):Cx:={ X with xe:=E }
abbrev Cx.nox (X:Cx):Cx:=X.wish λ_ _=>False
def Cx.Ok.wish {X:Cx}(ok:X.Ok) (E:Aa):(X.wish E).Ok :=
 ⟨ok.mod,ok.kind,ok.glob,ok.blt,ok.above,ok.inj,ok.has,ok.cab,ok.hd,ok.frames,ok.stk,ok.exf,ok.bs,ok.bsz,ok.noex,ok.exfs,ok.funs,ok.frf⟩
def Cx.Ok.unwish {X:Cx}{E:Aa}(ok:(X.wish E).Ok):X.Ok :=
 ⟨ok.mod,ok.kind,ok.glob,ok.blt,ok.above,ok.inj,ok.has,ok.cab,ok.hd,ok.frames,ok.stk,ok.exf,ok.bs,ok.bsz,ok.noex,ok.exfs,ok.funs,ok.frf⟩
section
variable {X:Cx}{pins:Ac}{U:St}{H:Hp}{s:Shared}{E:Aa}
def Inv.wish (I:Inv X pins U H s) (E:Aa):Inv (X.wish E) pins U H s:=⟨I.ok.wish E,I.os,I.bare,I.base,I.loc,I.cell,I.free,I.freeC,I.pin,I.hok,I.len⟩
def Inv.unwish (I:Inv (X.wish E) pins U H s):Inv X pins U H s:=⟨I.ok.unwish,I.os,I.bare,I.base,I.loc,I.cell,I.free,I.freeC,I.pin,I.hok,I.len⟩
def SP.unwish {D:Ends}{f:Flow}{s':Shared}(h:SP (X.wish E) pins D f s'):SP X pins D f s':=by
 cases f with
 | next=>obtain ⟨ai,H',I,q⟩:=h;exact ⟨ai,H',I.unwish,q⟩
 | brk=>obtain ⟨ai,H',I,q⟩:=h;exact ⟨ai,H',I.unwish,q⟩
 | cont=>obtain ⟨ai,H',I,q⟩:=h;exact ⟨ai,H',I.unwish,q⟩
 | ret u=>obtain ⟨v,ai,H',I,r,q⟩:=h;exact ⟨v,ai,H',I.unwish,r,q⟩
def PE.nox {e:Expr}{t:TE}(h:PE X.nox e t):PE X e t:=λpins s U H Q I hw =>
 jX (h pins s U H Q (I.wish _) hw) (λ_ _ ⟨v,H',I',r,q⟩=>⟨v,H',I'.unwish,r,q⟩) λ_ _ z=>z.elim
end
section
variable {X:Cx}{st:Stmt}{rest:List Stmt}{t u:TS}{e:Expr}{te:TE}{pos:Pos}
def JM:TS:=λD U H=>D.nx U H
def JN (t u:TS):TS:=λD U H=>t { D with nx:=u D } U H
def JO:de X [] JM:=λ_ _ U H _ I h=>wpAny_execs_nil ⟨U,H,I,h⟩
def JP (h1:PS X st t) (h2:de X rest u):de X (st::rest) (JN t u):=by
 intro pins s U H D I h
 refine wpAny_execs_cons (aP (h1 pins s U H { D with nx:=u D } I h) λf s1 q=>?_)
 cases f with
 | next =>
  obtain ⟨ai,H',I',q⟩:=q
  exact h2 pins s1 ai H' D I' q
 | ret v=>exact q
 | brk=>exact q
 | cont=>exact q
def JQ (h1:PS X st t):de X [st] t:=by
 intro pins s U H D I h
 refine wpAny_execs_cons (aP (h1 pins s U H D I h) λf s1 q=>?_)
 cases f with
 | next=>exact wpAny_execs_nil q
 | ret v=>exact q
 | brk=>exact q
 | cont=>exact q
def Inv.quiet {pins:Ac}{U:St}{H:Hp}{s:Shared}(I:Inv X pins U H s):interactive X.env=false:=by simp [interactive,I.ok.kind]
def JR (te:TE):TS:=λD U H=>te U H λ_ H1=>D.nx U H1
def JS (he:PE X e te) (hs:swapsWith e none pos.line X.env=pure false:=by rfl):PS X (.Expr e pos) (JR te):=by
 intro pins s U H D I h
 exact wpAny_Expr_any (aP (he pins s U H _ I h) λv s1 ⟨x,H1,I1,r1,q1⟩=>⟨U,H1,I1,q1⟩) I.quiet hs
def JT (te:TE):TS:=λD U H=>te U H D.rt
def JU (he:PE X e te):PS X (.Return (some e) pos) (JT te):=by
 intro pins s U H D I h
 exact wpAny_Return_some (aP (he pins s U H _ I h) λv s1 ⟨x,H1,I1,r1,q1⟩=>⟨x,U,H1,I1,r1,q1⟩)
def JV (c:TT) (t u:TS):TS:=λD U H=>c U H λb H1=>if b=true then t D U H1 else u D U H1
def JW {c:Expr}{a b:List Stmt}{tc:TT}(hc:PT X c tc) (ha:de X a t) (hb:de X b u):PS X (.If c a b pos) (JV tc t u):=by
 intro pins s U H D I h
 refine wpAny_If (aP (hc pins s U H _ I h) λd s1 ⟨H1,I1,q1⟩=>?_)
 cases d with
 | true=>exact ha pins s1 U H1 D I1 q1
 | false=>exact hb pins s1 U H1 D I1 q1
def JX:TS:=λ_ _ _=>False
def JY {dX:List Stmt}:de X dX JX:=λ_ _ _ _ _ _ h=>h.elim
end
abbrev TG:=V->St->Hp->(St->Hp->Prop)->Prop
abbrev lU:=List V->St->Hp->(St->Hp->Prop)->Prop
def PG (X:Cx) (target:Expr) (t:TG):Prop :=
 ∀(pins:Ac) (s:Shared) (U:St) (H:Hp) (v:V) (u:Value) (Q:St->Hp->Prop),Inv X pins U H s->RelV v u->t v U H Q ->
  wpAny (model X.prog X.w) X.A (assign target X.env u) (λ_ s'=>∃ai H',Inv X pins ai H' s'/\Q ai H') X.xe s
def rJ (X:Cx) (ts:List Expr) (t:lU):Prop :=
 ∀(pins:Ac) (s:Shared) (U:St) (H:Hp) (vs:List V) (us:Af) (Q:St->Hp->Prop),Inv X pins U H s->Vals vs us->t vs U H Q ->
  wpAny (model X.prog X.w) X.A (assignInOrder ((assignEach ts X.env).map (·.2)) us) (λ_ s'=>∃ai H',Inv X pins ai H' s'/\Q ai H') X.xe s
abbrev ph:=V->V->V->Hp->(Hp->Prop)->Prop
def uD (X:Cx) (t:ph):Prop :=
 ∀(pins:Ac) (s:Shared) (U:St) (H:Hp) (o i v:V) (ov iv u:Value) (Q:Hp->Prop),Inv X pins U H s->RelV o ov->RelV i iv->RelV v u->t o i v H Q ->
  wpAny (model X.prog X.w) X.A (setItem ov iv u) (λ_ s'=>∃H',Inv X pins U H' s'/\Q H') X.xe s
section
variable {X:Cx}{pos:Pos}
def wX (i:Nat):TG:=λv U H Q=>Q (U.set i (some v)) H
def ik {i:Nat}{x:Str}(hN:X.N.Nodup) (hi:X.N[i]?=some x) (hx:Loc X.env.scope x) (hf:X.fn x=true\/X.env.scope.names.lookup x=some .local:=by first|exact .inl rfl|exact .inr rfl|assumption):PG X (.Name x pos) (wX i):=by
 intro pins s U H v u Q I r h
 exact wpAny_assign_Name (vb I hN hi hx r (λs' I'=>⟨_,H,I',h⟩) hf)
def vc:lU:=λvs U H Q=>vs=[]/\Q U H
def pj (t:TG) (u:lU):lU:=λvs U H Q=>∃v r,vs=v::r/\t v U H λai H'=>u r ai H' Q
def vd:rJ X [] vc:=by
 intro pins s U H vs us Q I r h
 obtain ⟨e,h⟩:=h
 subst e
 cases r
 exact assignInOrder_nil ⟨U,H,I,h⟩
def nW {e:Expr}{es:List Expr}{t:TG}{u:lU}(h1:PG X e t) (h2:rJ X es u)
  (hs:(assignEach (e::es) X.env).map (·.2)=assign e X.env::(assignEach es X.env).map (·.2):=by rfl):rJ X (e::es) (pj t u):=by
 intro pins s U H vs us Q I r h
 obtain ⟨v,vr,e1,h⟩:=h
 subst e1
 cases r with
 | cons r rr =>
  rw [hs]
  refine assignInOrder_cons (aP (h1 pins s U H _ _ _ I r h) λ_ s1 ⟨av,H1,I1,q1⟩=>?_)
  exact h2 pins s1 av H1 _ _ Q I1 rr q1
def vf (K:PySem.W.Frag) (n:Nat) (t:lU):TG:=λv U H Q=>∃a xs,v=.ref a/\aW K H a xs/\xs.length=n/\t xs U H Q
def vg {es:List Expr}{k:Nat}{t:lU}{n:Nat}(hc:X.calm=true) (h:rJ X es t)
  (hn:(assignEach es X.env).length=n:=by rfl) (cC:(assignEach es X.env).findIdx? (·.1)=none:=by rfl):PG X (.Tuple es k pos) (vf X.K n t):=by
 intro pins s U H v u Q I r hw
 obtain ⟨a,xs,e1,hq,hl,hw⟩:=hw
 subst e1
 cases r
 obtain ⟨its,rv,ht,hz⟩:=I.tuple hq
 refine assign_Tuple_tuple (I.ok.hd hc) ht (by simp [hn,<-hl,rv.length]) cC λh' hx=>?_
 have I1:Inv X pins U H { s with heap:=h' }:=I.kept (t':=s.toks) λb o e=>hx b o (jb (yA e)) e
 exact h pins _ U H xs _ Q I1 (by simpa using rv) hw
def JZ (to ti:TE) (t:ph):TG:=λv U H Q=>to U H λo H1=>ti U H1 λi H2=>t o i v H2 λH3=>Q U H3
def J1 {o i:Expr}{to ti:TE}{t:ph}(ho:PE X o to) (hi:PE X i ti) (hs:uD X t)
  (ha:∀v,assign (.Subscript o i pos) X.env v=(do
   let ov <-holding [v] (eval o X.env)
   let iv <-holding [v,ov] (eval i X.env)
   standAt pos
   holding [v,ov,iv] (setItem ov iv v)
   release [v,ov,iv] []):=by intro _;rfl):PG X (.Subscript o i pos) (JZ to ti t):=by
 intro pins s U H v u Q I r h
 rw [ha]
 refine zx (wA (aP (ho pins s U H _ I h) λov s1 ⟨x,H1,I1,r1,q1⟩=>?_))
 refine zx (wA (aP (hi pins s1 U H1 _ I1 q1) λiv s2 ⟨y,H2,I2,r2,q2⟩=>?_))
 refine zx (wpAny_standAt (zx (wA (aP (hs pins s2 U H2 x y v ov iv u _ I2 r1 r2 r q2) λ_ s3 ⟨H3,I3,q3⟩=>?_))))
 exact wpAny_release ⟨U,H3,I3,q3⟩
def Cp (te:TE) (g:TG):TS:=λD U H=>te U H λx H1=>g x U H1 D.nx
def Cq {tg e:Expr}{te:TE}{g:TG}(he:PE X e te) (hg:PG X tg g) (hs:swapsWithSole [tg] e pos.line X.env=pure false:=by rfl) (hw:swappedStores [tg] e X.env=pure none:=by rfl)
  (h1:(assignEach [tg] X.env).map (·.2)=[assign tg X.env]:=by rfl):PS X (.Assign [tg] e pos) (Cp te g):=by
 intro pins s U H D I h
 refine wpAny_Assign_stores (aP (he pins s U H _ I h) λv s1 ⟨x,H1,I1,r1,q1⟩=>?_) hs hw
 rw [h1]
 exact aP (hg pins s1 U H1 x v _ I1 r1 q1) λ_ s2 q=>q
def J2 {i:Nat}{x:Str}{e:Expr}{te:TE}{pos':Pos}(hN:X.N.Nodup) (hi:X.N[i]?=some x) (hx:Loc X.env.scope x) (he:PE X e te) (hs:swapsWith e (some (.Name x pos')) pos.line X.env=pure false:=by rfl) (hf:X.fn x=true\/X.env.scope.names.lookup x=some .local:=by first|exact .inl rfl|exact .inr rfl|assumption) :
  PS X (.Assign [.Name x pos'] e pos) (Cp te (wX i)):=by
 intro pins s U H D I h
 refine wpAny_Assign_Name (aP (he pins s U H _ I h) λv s1 ⟨y,H1,I1,r1,q1⟩=>?_) hs
 exact vb I1 hN hi hx r1 (λs2 I2=>⟨_,H1,I2,q1⟩) hf
def J3 (c:TT) (tb:TS):TS:=λD U H=>∃W:Nat->St->Hp->Prop,(∃m,W m U H)/\∀m U H,W m U H ->
 c U H λb H1=>if b=true then ∃N:St->Hp->Prop,(∀ai H',N ai H'->∃m',m'<m/\W m' ai H')/\tb { D with nx:=N,ct:=N,bk:=D.nx } U H1 else D.nx U H1
def J4 {c:Expr}{body:List Stmt}{tc:TT}{tb:TS}(hp:PassesOwn (model X.prog X.w) X.A X.env X.xe) (hc:PT X c tc) (hb:de X body tb):PS X (.While c body [] pos) (J3 tc tb):=by
 intro pins s U H D I h
 obtain ⟨W,⟨m0,w0⟩,turn⟩:=h
 refine wpAny_While (codeAny_whileLoop (λn s'=>∃ai H',Inv X pins ai H' s'/\W n ai H') ?_ m0 ⟨U,H,I,w0⟩)
 rintro n s1 ⟨av,H1,I1,w1⟩
 refine wpAny_passesOwn hp (aP (hc pins s1 av H1 _ I1 (turn n av H1 w1)) λb s2 ⟨H2,I2,q2⟩=>?_)
 cases b with
 | true =>
  obtain ⟨N,hN,q2⟩:=q2
  rw [zF rfl]
  refine wpAny_passesOwn hp (aP (hb pins s2 av H2 _ I2 q2) λf s3 q3=>?_)
  cases f with
  | next =>
   obtain ⟨ax,H3,I3,n3⟩:=q3
   obtain ⟨m',hm,w3⟩:=hN ax H3 n3
   exact ⟨m',hm,ax,H3,I3,w3⟩
  | cont =>
   obtain ⟨ax,H3,I3,n3⟩:=q3
   obtain ⟨m',hm,w3⟩:=hN ax H3 n3
   exact ⟨m',hm,ax,H3,I3,w3⟩
  | brk=>exact q3
  | ret v=>exact q3
 | false =>
  rw [zP Bool.false_ne_true]
  exact wpAny_execs_nil ⟨av,H2,I2,q2⟩
end
structure It where
 go:Nat->Hp->Prop
 yld:Nat->Hp->V->Hp->Prop
 stop:Nat->Hp->Prop
def df (X:Cx) (pins:Ac) (H:Hp) (b:Addr):Prop :=
 H b=none/\b≠X.env.locals/\b∉X.fs/\(b∈X.ex\/X.s₀.heap.objs.size<=b)/\(∀x c,X.env.cells.lookup x=some c->c≠b)/\∀p∈X.pn++pins,p.1≠b
def Inv.fpOk {X:Cx}{pins:Ac}{U:St}{H H':Hp}{s:Shared}{b:Addr}(I:Inv X pins U H s) (hb:s.heap.objs.size<=b) (hn:H' b=none):df X pins H' b:=by
 refine ⟨hn,Nat.ne_of_gt (jO I.lt hb),I.nofs hb,.inr (ja I.sz hb),λx c e z=>?_,λp hp z=>?_⟩
 ·obtain ⟨v,q⟩:=I.cell x c e
  exact absurd (jO q.lt (by rw [z];exact hb)) (Nat.lt_irrefl _)
 ·exact absurd (jO (yA (I.pin p hp).1) (by rw [z];exact hb)) (Nat.lt_irrefl _)
structure Turn (P:Program) (w:World) (K:PySem.W.Frag) (tg:Expr) (J:It) (fp:Ae) (it:Addr) (tn:Nat->Heap->Prop):Prop where
 mem:it∈fp
 obj:∀i h,tn i h->∀b∈fp,∃o,h.get? b=some o/\∀v,o.data ≠ .cell v
 keep:∀i h h',tn i h->(∀b∈fp,∀o,h.get? b=some o->h'.get? b=some o)->tn i h'
 item:∀(X:Cx),X.prog=P->X.w=w->X.K=K->X.calm=true->∀(i:Nat) (pins:Ac) (s:Shared) (U:St) (H:Hp) (E:Aa),Inv X pins U H s->(∀b∈fp,df X pins H b)->tn i s.heap->J.go i H ->
  wpAny (model P w) X.A (pyNext (.ref it)) (λr s1=>∃u,r=some u /\
   wpAny (model P w) X.A (letOwnedTupleGo tg (.ref it) u) (λ_ s2=>∃x H',Inv X pins U H' s2/\RelV x u/\J.yld i H x H'/\tn (i+1) s2.heap/\∀b∈fp,H' b=none) E s1) E s
 done:∀(X:Cx),X.prog=P->X.w=w->X.K=K->X.calm=true->∀(i:Nat) (pins:Ac) (s:Shared) (U:St) (H:Hp) (E:Aa),Inv X pins U H s->(∀b∈fp,df X pins H b)->tn i s.heap->J.stop i H ->
  wpAny (model P w) X.A (pyNext (.ref it)) (λr s1=>r=none/\Inv X pins U H s1) E s
 self:∀(A:Around) (i:Nat) (s:Shared) (Q:Aa) (E:Aa),tn i s.heap->Q (.ref it) s->wpAny (model P w) A (pyIter (.ref it)) Q E s
abbrev TI:=St->Hp->(It->Hp->Prop)->Prop
def Cr (X:Cx) (pins:Ac) (U:St) (tg:Expr) (R:It->Hp->Prop) (rK:Value) (s2:Shared):Prop :=
 ∃(it:Addr) (fp:Ae) (tn:Nat->Heap->Prop) (J:It) (H':Hp),rK=.ref it/\Inv X pins U H' s2/\Turn X.prog X.w X.K tg J fp it tn/\tn 0 s2.heap/\(∀b∈fp,df X pins H' b)/\R J H'
def PI (X:Cx) (tg iter:Expr) (wi:TI):Prop :=
 ∀(pins:Ac) (s:Shared) (U:St) (H:Hp) (R:It->Hp->Prop),Inv X pins U H s->wi U H R ->
  wpAny (model X.prog X.w) X.A (eval iter X.env) (λv s1=>wpAny (model X.prog X.w) X.A (pyIter v) (Cr X pins U tg R) X.xe s1) X.xe s
def rL {M:Model}{A:Around}{E:Aa}{s:Shared}{tg:Expr}{it:Addr}{u:Value}{o:Obj}{n:String}{vs:Array Value}{Q:Unit->Shared->Prop}(ho:s.heap.get? it=some o) (hc:o.cls=.type n) (hd:o.data=.fields vs)
  (hn:["enumerate", "zip", "dict_itemiterator", "dict_reverseitemiterator", "odict_iterator", "itertools.zip_longest", "itertools.pairwise"].contains n=false) (hQ:Q () s):wpAny M A (letOwnedTupleGo tg (.ref it) u) Q E s:=by
 unfold letOwnedTupleGo
 cases tg<;>first
  | exact zZ hQ
  | (cases u<;>first
    | exact zZ hQ
    | (refine zx (wpAny_load ho ?_)
       rw [hc,hd]
       show wpAny M A (if (["enumerate", "zip", "dict_itemiterator", "dict_reverseitemiterator", "odict_iterator", "itertools.zip_longest", "itertools.pairwise"].contains n&&vs[0]?==some (rawInt _))=true then _ else _) Q E s
       rw [zP (by intro h;rw [hn,Bool.false_and] at h;cases h)]
       exact zZ hQ))
def rM (K:PySem.W.Frag) (a:Addr):It :=
 ⟨λi H=>∃xs x,aQ K H a xs/\xs[i]?=some x,λi H x H'=>H'=H/\∀xs,aQ K H a xs->xs[i]?=some x,λi H=>∃xs,aQ K H a xs/\xs.length<=i⟩
def nX (K:PySem.W.Frag) (a:Addr):It :=
 ⟨λi H=>∃xs x,aW K H a xs/\xs[i]?=some x,λi H x H'=>H'=H/\∀xs,aW K H a xs->xs[i]?=some x,λi H=>∃xs,aW K H a xs/\xs.length<=i⟩
def pz (lo:Int) (n:Nat):It:=⟨λi _=>i<n,λi H x H'=>H'=H/\x=.int (lo+i),λi _=>n<=i⟩
theorem J5 {P:Program}{w:World}{K:PySem.W.Frag}{tg:Expr}(a it:Addr):Turn P w K tg (rM K a) [it] it (λi h=>h.IsListIter it a i) where
 mem:=by simp
 obj:=λi h st b hb=>by
  have e:b=it:=by simpa using hb
  subst e
  obtain ⟨o,e,c,d⟩:=st
  exact ⟨o,e,λv z=>by rw [d] at z;cases z⟩
 keep:=λi h h' st k=>st.at λo e=>k it (by simp) o e
 item:=by
  intro X hP hw hK hc i pins s U H E I hf st hg
  subst hP hw hK
  obtain ⟨xs,x,hq,hx⟩:=hg
  obtain ⟨its,rv,p,hz⟩:=I.list hq
  obtain ⟨u,hu,ru⟩:=rv.get hx
  obtain ⟨f0,f1,f2,f3,f4,f5⟩:=hf it (by simp)
  refine wpAny_pyNext_list_item st p.isList (x:=u) (by simpa using hu) λh' bu sb=>?_
  have I1:Inv X pins U H { s with heap:=h' }:=I.turned (t':=s.toks) (λb o hb e=>(sb.2 b hb).trans e) f0 f1 f3 f4 f5
  obtain ⟨o,e,c,d⟩:=id bu
  exact ⟨u,rfl,rL (s:={ s with heap:=h' }) e c d (by decide) ⟨x,H,I1,ru,⟨rfl,λys hy=>by rw [I.list_inj hy hq];exact hx⟩,bu,λb hb=>(hf b hb).1⟩⟩
 done:=by
  intro X hP hw hK hc i pins s U H E I hf st hg
  subst hP hw hK
  obtain ⟨xs,hq,hx⟩:=hg
  obtain ⟨its,rv,p,hz⟩:=I.list hq
  obtain ⟨f0,f1,f2,f3,f4,f5⟩:=hf it (by simp)
  have hl:=rv.length
  exact wpAny_pyNext_list_end (I.ok.hd hc) st p.isList (by simp;omega) λh' eb=>⟨rfl,I.turned (t':=s.toks) (λb o hb e=>eb b o hb e) f0 f1 f3 f4 f5⟩
 self:=λ_ _ _ _ _ st h=>wpAny_pyIter_listiter st h
def J6 {P:Program}{w:World}{K:PySem.W.Frag}{tg:Expr}(a it:Addr):Turn P w K tg (nX K a) [it] it (λi h=>h.IsTupleIter it a i) where
 mem:=by simp
 obj:=λi h st b hb=>by
  have e:b=it:=by simpa using hb
  subst e
  obtain ⟨o,e,c,d⟩:=st
  exact ⟨o,e,λv z=>by rw [d] at z;cases z⟩
 keep:=λi h h' st k=>st.at λo e=>k it (by simp) o e
 item:=by
  intro X hP hw hK hc i pins s U H E I hf st hg
  subst hP hw hK
  obtain ⟨xs,x,hq,hx⟩:=hg
  obtain ⟨its,rv,p,hz⟩:=I.tuple hq
  obtain ⟨u,hu,ru⟩:=rv.get hx
  obtain ⟨f0,f1,f2,f3,f4,f5⟩:=hf it (by simp)
  refine wpAny_pyNext_tuple_item st (show s.heap.IsTuple a its.toArray from p) (x:=u) (by simpa using hu) λh' bu sb=>?_
  have I1:Inv X pins U H { s with heap:=h' }:=I.turned (t':=s.toks) (λb o hb e=>(sb.2 b hb).trans e) f0 f1 f3 f4 f5
  obtain ⟨o,e,c,d⟩:=id bu
  exact ⟨u,rfl,rL (s:={ s with heap:=h' }) e c d (by decide) ⟨x,H,I1,ru,⟨rfl,λys hy=>by rw [I.tuple_inj hy hq];exact hx⟩,bu,λb hb=>(hf b hb).1⟩⟩
 done:=by
  intro X hP hw hK hc i pins s U H E I hf st hg
  subst hP hw hK
  obtain ⟨xs,hq,hx⟩:=hg
  obtain ⟨its,rv,p,hz⟩:=I.tuple hq
  obtain ⟨f0,f1,f2,f3,f4,f5⟩:=hf it (by simp)
  have hl:=rv.length
  exact wpAny_pyNext_tuple_end (I.ok.hd hc) st (show s.heap.IsTuple a its.toArray from p) (by simp;omega) λh' eb=>⟨rfl,I.turned (t':=s.toks) (λb o hb e=>eb b o hb e) f0 f1 f3 f4 f5⟩
 self:=λ_ _ _ _ _ st h=>wpAny_pyIter_tupleiter st h
theorem J7 {P:Program}{w:World}{K:PySem.W.Frag}{tg:Expr}(it:Addr) (lo:Int) (n:Nat):Turn P w K tg (pz lo n) [it] it (λi h=>IsRangeIter h it (lo+(i:Nat)*1) ((n:Int)-(i:Nat)) 1) where
 mem:=by simp
 obj:=λi h st b hb=>by
  have e:b=it:=by simpa using hb
  subst e
  exact ⟨_,st,λv z=>by
   have z':Data.fields _=Data.cell v:=z
   cases z'⟩
 keep:=λi h h' st k=>k it (by simp) _ st
 item:=by
  intro X hP hw hK hc i pins s U H E I hf st hg
  subst hP hw hK
  obtain ⟨f0,f1,f2,f3,f4,f5⟩:=hf it (by simp)
  have W:=Walks.range (prog:=X.prog) (w:=X.w) (I.ok.hd hc) it lo 1 n
  refine W.item i s _ _ hg st λv h' tk hv bu kk=>?_
  obtain ⟨t,rfl⟩:=hv
  have I1:Inv X pins U H { s with heap:=h',toks:=tk }:=I.turned (λb o hb e=>kk b o (by simpa using hb) e) f0 f1 f3 f4 f5
  refine ⟨_,rfl,rL (s:={ s with heap:=h',toks:=tk }) (n := "range_iterator") bu rfl rfl (by decide) ⟨.int (lo+i),H,I1,⟨t,?_⟩,⟨rfl,rfl⟩,bu,λb hb=>(hf b hb).1⟩⟩
  rw [Int.mul_one]
 done:=by
  intro X hP hw hK hc i pins s U H E I hf st hg
  subst hP hw hK
  obtain ⟨f0,f1,f2,f3,f4,f5⟩:=hf it (by simp)
  exact wpAny_pyNext_range_end (I.ok.hd hc) st (by have:n<=i:=hg;omega) λh' eb=>⟨rfl,I.turned (t':=s.toks) (λb o hb e=>eb b o hb e) f0 f1 f3 f4 f5⟩
 self:=λ_ _ _ _ _ st h=>wpAny_pyIter_rangeiter st h
section
variable {X:Cx}{tg:Expr}
theorem J8 {pins:Ac}{U:St}{H:Hp}{s:Shared}{R:It->Hp->Prop}{E:Aa}{lo hi:Int}{t u v:Tok}{tk:Nat}(I:Inv X pins U H s) (h1 : -(2 ^ 62)<=lo) (h2:lo<2 ^ 62) (h3 : -(2 ^ 62)<=hi) (h4:hi<2 ^ 62)
  (q:R (pz lo (hi-lo).toNat) H):wpAny (model X.prog X.w) X.A (pyIter (.ref s.heap.objs.size)) (Cr X pins U tg R) E { s with heap:=s.heap.push { cls:=.type "range", data:=.fields #[.int lo t,.int hi u,.int 1 v] },toks:=tk }:=by
 refine wpAny_pyIter_range (IsRange.new ..) (small_one h1 h2 h3 h4) ?_
 have I1:Inv X pins U H { s with heap:=s.heap.push { cls:=.type "range", data:=.fields #[.int lo t,.int hi u,.int 1 v] },toks:=tk }:=I.kept λb o e=>yh _ e
 refine ⟨(s.heap.push { cls:=.type "range", data:=.fields #[.int lo t,.int hi u,.int 1 v] }).objs.size,[(s.heap.push { cls:=.type "range", data:=.fields #[.int lo t,.int hi u,.int 1 v] }).objs.size],_,_,H,rfl,
  I1.kept (t':=tk) λb o e=>yh _ e,J7 _ lo (hi-lo).toNat,?_,λb hb=>?_,q⟩
 ·have e1:lo+((0:Nat):Int)*1=lo:=by simp
  have e2:(((hi-lo).toNat:Nat):Int)-((0:Nat):Int)=Builtin.Range.rangeSize lo hi 1:=by rw [rangeSize_one];split<;>omega
  show IsRangeIter _ _ (lo+((0:Nat):Int)*1) ((((hi-lo).toNat:Nat):Int)-((0:Nat):Int)) 1
  rw [e1,e2]
  exact yW _ rfl
 ·have e:b=(s.heap.push { cls:=.type "range", data:=.fields #[.int lo t,.int hi u,.int 1 v] }).objs.size:=by simpa using hb
  subst e
  exact I1.fpOk (ym _) (I1.hok.fresh (ym _))
def bP (ta:TA):TI:=λU H R=>ta U H λvs H1=>∃j:Int,vs=[.int j] /\ -(2 ^ 62)<=j/\j<2 ^ 62/\R (pz 0 j.toNat) H1
def vh (ta:TA):TI:=λU H R=>ta U H λvs H1=>∃i j:Int,vs=[.int i,.int j]/\(-(2 ^ 62)<=i/\i<2 ^ 62 /\ -(2 ^ 62)<=j/\j<2 ^ 62)/\R (pz i (j-i).toNat) H1
theorem J9 {a:Expr} {ta:TA} {p pos:Pos} (hg:Gl X "range") (hm:X.mg "range" = none) (ha:PA X [a] ta) (hs:starEach [a] X.env=[(false,eval a X.env)]:=by rfl):PI X tg (.Call (.Name "range" p) [a] [] pos) (bP ta):=by
 intro pins s U H R I h
 refine Call_ (kM I hg hm boot_range (PyProof.Rows.callWith_type1 (aP (ha pos pins s U H _ I h) λus s1 ⟨vs,H1,I1,r1,q1⟩=>?_) hs rfl))
 obtain ⟨j,e,q1,q2,q⟩:=q1
 subst e
 cases r1 with
 | cons r rr =>
  cases rr
  obtain ⟨t,rfl⟩:=r
  exact call_range_1 (J8 I1 (by omega) (by omega) q1 q2 (by simpa using q))
def J_ (wi:TI) (g:TG) (tb:TS):TS:=λD U H=>wi U H λJ H1=>∃W:Nat->Nat->St->Hp->Prop,(∃m,W 0 m U H1)/\∀i m U H,W i m U H ->
 (J.stop i H/\D.nx U H)\/(J.go i H/\∃N:St->Hp->Prop,(∀ai H',N ai H'->∃m',m'<m/\W (i+1) m' ai H')/\∀x H',J.yld i H x H'->g x U H' λaF H2=>tb { D with nx:=N,ct:=N,bk:=D.nx } aF H2)
def f_ (fp:Ae) (h:Heap):Ac:=fp.filterMap λb=>(h.get? b).map λo=>(b,o)
def pA {fp:Ae}{h:Heap}{b:Addr}{o:Obj}(hb:b∈fp) (e:h.get? b=some o):(b,o)∈f_ fp h:=List.mem_filterMap.mpr ⟨b,hb,by rw [e];rfl⟩
def Ka {fp:Ae}{h:Heap}{p:Addr×Obj}(hp:p∈f_ fp h):p.1∈fp/\h.get? p.1=some p.2:=by
 obtain ⟨b,hb,e⟩:=List.mem_filterMap.mp hp
 cases q:h.get? b with
 | none=>rw [q] at e;cases e
 | some o =>
  rw [q] at e
  have e':(b,o)=p:=Option.some.inj e
  subst e'
  exact ⟨hb,q⟩
def Inv.pinned {pins:Ac}{U:St}{H:Hp}{s:Shared}{fp:Ae}(I:Inv X pins U H s) (hf:∀b∈fp,df X pins H b) (ho:∀b∈fp,∃o,s.heap.get? b=some o/\∀v,o.data ≠ .cell v):Inv X (pins++f_ fp s.heap) U H s :=
 I.pins_of λp hp=>(wu.mp hp).elim (λz=>I.pin p (jn _ z)) λz=>by
  obtain ⟨hb,e⟩:=Ka z
  obtain ⟨f0,f1,f2,_⟩:=hf p.1 hb
  obtain ⟨o,e',d⟩:=ho p.1 hb
  rw [e] at e';cases e'
  exact ⟨e,f0,f1,f2,d⟩
def Inv.unpinned {pins pl:Ac}{U:St}{H:Hp}{s:Shared}(I:Inv X (pins++pl) U H s):Inv X pins U H s:=I.pins_of λp hp=>I.pin p (jn _ (gh _ hp))
def vi {iter:Expr}{body:List Stmt}{wi:TI}{g:TG}{tb:TS}{pos:Pos}(hp:PassesOwn (model X.prog X.w) X.A X.env X.xe) (hc:X.calm=true) (hi:PI X tg iter wi) (hg:PG X tg g) (hb:de X body tb)
  (hs:∀x,foldedSetIterable iter X.env x=pure x:=by intro _;rfl):PS X (.For tg iter body [] pos) (J_ wi g tb):=by
 intro pins s U H D I h
 refine wpAny_For (aP (hi pins s U H _ I h) λv s1 h1=>aP h1 λrK s2 h2=>?_) hs
 obtain ⟨it,fp,tn,J,H2,e,I2,T,ay,f2,W,⟨m0,w0⟩,turn⟩:=h2
 subst e
 have stat:∀{H':Hp},(∀b∈fp,H' b=none)->∀b∈fp,df X pins H' b:=λhn b hb=>⟨hn b hb,(f2 b hb).2⟩
 refine codeAny_forLoop_any (λn s'=>∃i ai H',Inv X pins ai H' s'/\tn i s'.heap/\(∀b∈fp,H' b=none)/\W i n ai H') ?_ m0 ⟨0,U,H2,I2,ay,λb hb=>(f2 b hb).1,w0⟩
 rintro n s3 ⟨i,ax,H3,I3,aS,kN,w3⟩
 rcases turn i n ax H3 w3 with ⟨stop,qn⟩|⟨go,N,hN,step⟩
 ·refine wpAny_passesOwn hp (aP (T.done X rfl rfl rfl hc i pins s3 ax H3 X.xe I3 (stat kN) aS stop) λr s4 ⟨hr,I4⟩=>?_)
  subst hr
  exact wpAny_execs_nil ⟨ax,H3,I4,qn⟩
 ·refine wpAny_passesOwn hp (aP (T.item X rfl rfl rfl hc i pins s3 ax H3 X.xe I3 (stat kN) aS go) λr s4 ⟨u,hr,h4⟩=>?_)
  subst hr
  refine wpAny_passesOwn hp (aP h4 λ_ s5 ⟨x,H5,I5,r5,y5,fJ,pB⟩=>?_)
  have pD:=I5.pinned (stat pB) (T.obj _ _ fJ)
  refine wpAny_passesOwn hp (aP (hg _ s5 ax H5 x u _ pD r5 (step x H5 y5)) λ_ s6 ⟨aG,H6,I6,q6⟩=>?_)
  refine wpAny_passesOwn hp (aP (hb _ s6 aG H6 _ I6 q6) λf s7 q7=>?_)
  have again:∀{aw:St} {H7:Hp},Inv X (pins++f_ fp s5.heap) aw H7 s7->N aw H7->∃m,m<n/\∃i ai H',Inv X pins ai H' s7/\tn i s7.heap/\(∀b∈fp,H' b=none)/\W i m ai H':=λ{aw H7} I7 n7=>by
   obtain ⟨m',hm,w7⟩:=hN aw H7 n7
   refine ⟨m',hm,i+1,aw,H7,I7.unpinned,T.keep _ _ _ fJ λb hb o e=>(I7.pin (b,o) (jn _ (jn _ (pA hb e)))).1,λb hb=>?_,w7⟩
   obtain ⟨o,e,d⟩:=T.obj _ _ fJ b hb
   exact (I7.pin (b,o) (jn _ (jn _ (pA hb e)))).2.1
  cases f with
  | next=>obtain ⟨aw,H7,I7,n7⟩:=q7;exact again I7 n7
  | cont=>obtain ⟨aw,H7,I7,n7⟩:=q7;exact again I7 n7
  | brk=>obtain ⟨aw,H7,I7,q7⟩:=q7;exact ⟨aw,H7,I7.unpinned,q7⟩
  | ret v=>obtain ⟨x7,aw,H7,I7,r7,q7⟩:=q7;exact ⟨x7,aw,H7,I7.unpinned,r7,q7⟩
end
theorem dg {K:PySem.W.Frag}{a:Addr}{xs:List V}{g:TG}{tb:TS}{D:Ends}{U:St}{H:Hp}(Pv:Nat->St->Hp->Prop) (h0:Pv 0 U H) (hl:∀i U H,i<=xs.length->Pv i U H->aW K H a xs)
  (hs:∀i x U H,xs[i]?=some x->Pv i U H->g x U H λaF H2=>tb { D with nx:=Pv (i+1),ct:=Pv (i+1),bk:=D.nx } aF H2) (hd:∀U H,Pv xs.length U H->D.nx U H) :
  ∃W:Nat->Nat->St->Hp->Prop,(∃m,W 0 m U H)/\∀i m U H,W i m U H ->
   ((nX K a).stop i H/\D.nx U H)\/((nX K a).go i H/\∃N:St->Hp->Prop,(∀ai H',N ai H'->∃m',m'<m/\W (i+1) m' ai H')/\∀x H',(nX K a).yld i H x H'->g x U H' λaF H2=>tb { D with nx:=N,ct:=N,bk:=D.nx } aF H2):=by
 refine ⟨λi m U H=>m=xs.length-i/\i<=xs.length/\Pv i U H,⟨xs.length,by simp,jB _,h0⟩,?_⟩
 rintro i m U H ⟨rfl,hi,p⟩
 have q:=hl i U H hi p
 by_cases bj:i<xs.length
 ·refine .inr ⟨⟨xs,xs[i],q,by simp [bj]⟩,Pv (i+1),λai H' p'=>⟨xs.length-(i+1),by omega,rfl,bj,p'⟩,λx H' y=>?_⟩
  obtain ⟨e,y⟩:=y
  subst e
  exact hs i x U _ (y xs q) p
 ·have e:i=xs.length:=by omega
  subst e
  exact .inl ⟨⟨xs,q,ym _⟩,hd U H p⟩
abbrev R2:=V->V->Hp->VK->Prop
def bh (X:Cx) (f:Value->Value->Sem Value) (r:R2):Prop :=
 ∀(pins:Ac) (s:Shared) (U:St) (H:Hp) (x y:V) (v u:Value) (Q:VK),Inv X pins U H s->RelV x v->RelV y u->r x y H Q ->
  wpAny (model X.prog X.w) X.A (f v u) (EP X pins U Q) X.xe s
def pE (X:Cx) (f:Value->Sem Value) (r:V->Hp->VK->Prop):Prop :=
 ∀(pins:Ac) (s:Shared) (U:St) (H:Hp) (x:V) (v:Value) (Q:VK),Inv X pins U H s->RelV x v->r x H Q ->
  wpAny (model X.prog X.w) X.A (f v) (EP X pins U Q) X.xe s
def bQ (X:Cx) (f:Value) (r:List V->Hp->VK->Prop):Prop :=
 ∀(pins:Ac) (s:Shared) (U:St) (H:Hp) (xs:List V) (us:Af) (Q:VK),Inv X pins U H s->Vals xs us->r xs H Q ->
  wpAny (model X.prog X.w) X.A (call f us) (EP X pins U Q) X.xe s
def pF (r:R2) (ta tb:TE):TE:=λU H Q=>ta U H λx H1=>tb U H1 λy H2=>r x y H2 Q
def Kb (r:V->Hp->VK->Prop) (ta:TE):TE:=λU H Q=>ta U H λx H1=>r x H1 Q
def rI (C:Int->Int->Prop) (g:Int->Int->V):R2:=λx y H Q=>∃i j,x=.int i/\y=.int j/\C i j/\Q (g i j) H
def iq (g:Int->Int->V):R2:=λx y H Q=>∃i j,x=.int i/\y=.int j/\Q (g i j) H
def rU (g:Int->V):V->Hp->VK->Prop:=λx H Q=>∃i,x=.int i/\Q (g i) H
section
variable {X:Cx}{a b c:Expr}{ta tb tc:TE}{pos:Pos}
def pG (ha:PE X a ta) (hb:PE X b tb) {pins:Ac}{s:Shared}{U:St}{H:Hp}{R:V->V->Hp->Prop}(I:Inv X pins U H s)
  (h:ta U H λx H1=>tb U H1 λy H2=>R x y H2) {Q:Aa} {f:Value->Value->Sem Value}
  (hf:∀v u s2 x y H2,Inv X pins U H2 s2->RelV x v->RelV y u->R x y H2->wpAny (model X.prog X.w) X.A (f v u) Q X.xe s2) :
  wpAny (model X.prog X.w) X.A (eval a X.env) (λv ao=>wpAny (model X.prog X.w) X.A (eval b X.env) (λu ae=>wpAny (model X.prog X.w) X.A (f v u) Q X.xe ae) X.xe ao) X.xe s:=by
 refine aP (ha pins s U H _ I h) λv s1 ⟨x,H1,I1,r1,q1⟩=>?_
 refine aP (hb pins s1 U H1 _ I1 q1) λu s2 ⟨y,H2,I2,r2,q2⟩=>?_
 exact hf v u s2 x y H2 I2 r1 r2 q2
def Kc {op:Operator}{r:R2}(ho:bh X (binaryOp op) r) (ha:PE X a ta) (hb:PE X b tb):PE X (.BinOp a op b pos) (pF r ta tb):=by
 intro pins s U H Q I h
 exact wpAny_BinOp (pG ha hb I h λv u s2 x y H2 I2 rx ry q=>ho pins s2 U H2 x y v u Q I2 rx ry q)
def Kd {op:UnaryOp}{r:V->Hp->VK->Prop}(ho:pE X (unaryOp op) r) (ha:PE X a ta):PE X (.UnaryOp op a pos) (Kb r ta):=by
 intro pins s U H Q I h
 exact UnaryOp_ (aP (ha pins s U H _ I h) λv s1 ⟨x,H1,I1,r1,q1⟩=>ho pins s1 U H1 x v Q I1 r1 q1)
def opI {f:Value->Value->Sem Value}{C:Int->Int->Prop}{g:Int->Int->Int}
  (rule:∀(i j:Int) (t u:Tok) (s:Shared) (Q:Aa) (E:Aa),C i j->Q (.int (g i j) s.toks) { s with toks:=s.toks+1 }->wpAny (model X.prog X.w) X.A (f (.int i t) (.int j u)) Q E s) :
  bh X f (rI C λi j=>.int (g i j)):=by
 intro pins s U H x y v u Q I rx ry h
 obtain ⟨i,j,rfl,rfl,hc,q⟩:=h
 obtain ⟨t,rfl⟩:=rx
 obtain ⟨t',rfl⟩:=ry
 exact rule i j t t' s _ _ hc ⟨.int (g i j),H,I.tok _,⟨_,rfl⟩,q⟩
def rN {f:Value->Value->Sem Value}{g:Int->Int->Int}
  (rule:∀(i j:Int) (t u:Tok) (s:Shared) (Q:Aa) (E:Aa),Q (.int (g i j) s.toks) { s with toks:=s.toks+1 }->wpAny (model X.prog X.w) X.A (f (.int i t) (.int j u)) Q E s) :
  bh X f (iq λi j=>.int (g i j)):=by
 intro pins s U H x y v u Q I rx ry h
 obtain ⟨i,j,rfl,rfl,q⟩:=h
 obtain ⟨t,rfl⟩:=rx
 obtain ⟨t',rfl⟩:=ry
 exact rule i j t t' s _ _ ⟨.int (g i j),H,I.tok _,⟨_,rfl⟩,q⟩
def Cs {f:Value->Value->Sem Value}{g:Int->Int->Bool}
  (rule:∀(i j:Int) (t u:Tok) (s:Shared) (Q:Aa) (E:Aa),Q (.bool (g i j)) s->wpAny (model X.prog X.w) X.A (f (.int i t) (.int j u)) Q E s) :
  bh X f (iq λi j=>.bl (g i j)):=by
 intro pins s U H x y v u Q I rx ry h
 obtain ⟨i,j,rfl,rfl,q⟩:=h
 obtain ⟨t,rfl⟩:=rx
 obtain ⟨t',rfl⟩:=ry
 exact rule i j t t' s _ _ ⟨.bl (g i j),H,I,rfl,q⟩
def uE (i j:Int):Prop:=0<=j/\j<=1000000/\i.natAbs<2 ^ 64
def nE (i j:Int):Prop:=(-(2 ^ 64)<i/\i<2 ^ 64)\/(-(2 ^ 64)<j/\j<2 ^ 64)
def nE.ok {i j:Int}(h:nE i j):IntMulOk i j:=by
 rcases h with ⟨h1,h2⟩|⟨h1,h2⟩
 ·exact .of_left (intBits_le_64 h1 h2)
 ·exact .of_right (intBits_le_64 h1 h2)
def Ke (k:Nat):(0:Int)<=2 ^ k:=by
 rw [two_pow_cast]
 exact Int.natCast_nonneg _
def Kf:bh X (binaryOp .Add) (iq λi j=>.int (i+j)):=rN λ_ _ _ _ _ _ _ q=>add_int q
def Kg:bh X (binaryOp .Sub) (iq λi j=>.int (i-j)):=rN λ_ _ _ _ _ _ _ q=>sub_int q
def Kh:bh X (binaryOp .Mult) (rI nE λi j=>.int (i*j)):=opI λ_ _ _ _ _ _ _ hc q=>mul_int q hc.ok
def Ki:bh X (binaryOp .Mod) (rI (λ_ j=>j≠0) λi j=>.int (i.fmod j)):=opI λ_ _ _ _ _ _ _ hc q=>mod_int' hc q
def Kj:bh X (binaryOp .Pow) (rI uE λi j=>.int (i ^ j.toNat)):=opI λ_ _ _ _ _ _ _ hc q=>pow_int_small hc.1 hc.2.1 hc.2.2 q
def Kk:bh X (binaryOp .LShift) (rI uE λi j=>.int (i*2 ^ j.toNat)):=opI λ_ _ _ _ _ _ _ hc q=>lshift_int_small hc.1 hc.2.1 hc.2.2 q
def Kl:bh X (binaryOp .RShift) (rI (λ_ j=>0<=j) λi j=>.int (i/2 ^ j.toNat)):=opI λi j _ _ _ _ _ hc q =>
 rshift_int hc (by rw [Int.fdiv_eq_ediv_of_nonneg i (Ke _)];exact q)
def Km:bh X (binaryOp .BitAnd) (iq λi j=>.int (Builtin.bitAnd i j)):=rN λ_ _ _ _ _ _ _ q=>and_int q
def Ko:bh X (binaryOp .BitOr) (iq λi j=>.int (Builtin.bitOr i j)):=rN λ_ _ _ _ _ _ _ q=>or_int q
def Kp {f:Value->Sem Value}{g:Int->Int}
  (rule:∀(i:Int) (t:Tok) (s:Shared) (Q:Aa) (E:Aa),Q (.int (g i) s.toks) { s with toks:=s.toks+1 }->wpAny (model X.prog X.w) X.A (f (.int i t)) Q E s) :
  pE X f (rU λi=>.int (g i)):=by
 intro pins s U H x v Q I rx h
 obtain ⟨i,rfl,q⟩:=h
 obtain ⟨t,rfl⟩:=rx
 exact rule i t s _ _ ⟨.int (g i),H,I.tok _,⟨_,rfl⟩,q⟩
def Kq:pE X (unaryOp .USub) (rU λi=>.int (-i)):=Kp λ_ _ _ _ _ q=>neg_int q
def Ct {pins:Ac}{U:St}{H:Hp}{s:Shared}{Q:VK}{k k':Bool}(I:Inv X pins U H s) (q:Q (.bl k) H) (e:k=k'):EP X pins U Q (.bool k') s:=by
 subst e
 exact ⟨.bl k,H,I,rfl,q⟩
def Kr:bh X (compareOp .Lt) (iq λi j=>.bl (decide (i<j))):=Cs λ_ _ _ _ _ _ _ q=>lt_int q
def Ks:bh X (compareOp .Gt) (iq λi j=>.bl (decide (j<i))):=Cs λ_ _ _ _ _ _ _ q=>gt_int q
def Kt:bh X (compareOp .In) (λx y H Q=>∃i j,x=.str i/\y=.str j/\Q (.bl (!(Builtin.Str.occurrences j i 0 j.length 1).isEmpty)) H):=by
 intro pins s U H x y v u Q I rx ry h
 obtain ⟨i,j,rfl,rfl,q⟩:=h
 obtain ⟨t,rfl⟩:=rx
 obtain ⟨t',rfl⟩:=ry
 exact in_str (Ct I q rfl)
def Ku:bh X (compareOp .IsNot) (λx y H Q=>y=.non/\Q (.bl (!decide (x=.non))) H):=by
 intro pins s U H x y v u Q I rx ry h
 obtain ⟨rfl,q⟩:=h
 cases ry
 refine isnot_none_gen (Ct I q ?_)
 cases x<;>first
  | (cases rx;rfl)
  | (obtain ⟨t,rfl⟩:=rx;rfl)
def bh.or {f:Value->Value->Sem Value}{r r':R2}(h:bh X f r) (h':bh X f r'):bh X f (λx y H Q=>r x y H Q\/r' x y H Q):=by
 intro pins s U H x y v u Q I rx ry q
 rcases q with q|q
 ·exact h pins s U H x y v u Q I rx ry q
 ·exact h' pins s U H x y v u Q I rx ry q
def nF (b:Expr) {op:CmpOp}(h:op ≠ .In:=by decide) (h2:op ≠ .NotIn:=by decide):behindInMarks op b=false:=by
 have e1:(op==CmpOp.In)=false:=by cases op<;>first|rfl|exact absurd rfl h
 have e2:(op==CmpOp.NotIn)=false:=by cases op<;>first|rfl|exact absurd rfl h2
 cases b<;>simp [behindInMarks,e1,e2]
def Kv {op:CmpOp}{r:R2}(ho:bh X (compareOp op) r) (ha:PE X a ta) (hb:PE X b tb) (hm:behindInMarks op b=false):PE X (.Compare a [op] [b] pos) (pF r ta tb):=by
 intro pins s U H Q I h
 exact wpAny_Compare1 (pG ha hb I h λv u s2 x y H2 I2 rx ry q=>ho pins s2 U H2 x y v u Q I2 rx ry q) hm
def Kw (t:TE):TT:=λU H Q=>t U H λx H'=>∃k,x=.bl k/\Q k H'
def Kx {op:CmpOp}{r:R2}(ho:bh X (compareOp op) r) (ha:PE X a ta) (hb:PE X b tb) (hm:behindInMarks op b=false):PT X (.Compare a [op] [b] pos) (Kw (pF r ta tb)):=by
 intro pins s U H Q I h
 refine wpAny_isTrue_Compare1 (aP (ha pins s U H _ I h) λv s1 ⟨x,H1,I1,r1,q1⟩=>aP (hb pins s1 U H1 _ I1 q1) λu s2 ⟨y,H2,I2,r2,q2⟩ =>
  aP (ho pins s2 U H2 x y v u _ I2 r1 r2 q2) λc s3 ⟨z,H3,I3,r3,k,e,q3⟩=>?_) hm
 subst e
 cases r3
 exact gg ⟨H3,I3,q3⟩
def pH:(sizeLine:Nat)<2 ^ 63:=by rw [sizeLine_eq];decide
def Ky:bh X (binaryOp .Add) (λx y H Q=>∃i j,x=.str i/\y=.str j/\i.length+j.length<=sizeLine/\Q (.str (i++j)) H):=by
 intro pins s U H x y v u Q I rx ry h
 obtain ⟨i,j,rfl,rfl,hz,q⟩:=h
 obtain ⟨t,rfl⟩:=rx
 obtain ⟨t',rfl⟩:=ry
 exact add_str (λt' tk=>⟨.str (i++j),H,I.tok _,⟨_,rfl⟩,q⟩) hz
def iu {x:V}{us:Af}(r:Vals [x] us):∃u,us=[u]/\RelV x u:=by
 cases r with
 | cons r1 r2=>cases r2;exact ⟨_,rfl,r1⟩
def vj {x y:V}{us:Af}(r:Vals [x,y] us):∃u w',us=[u,w']/\RelV x u/\RelV y w':=by
 cases r with
 | cons r1 r2 =>
  cases r2 with
  | cons r3 r4=>cases r4;exact ⟨_,_,rfl,r1,r3⟩
def Kz:bQ X (.type "int") (λxs H Q=>(∃i,xs=[.int i]/\Q (.int i) H)\/∃k,xs=[.bl k]/\Q (.int (if k then 1 else 0)) H):=by
 intro pins s U H xs us Q I r h
 rcases h with ⟨i,rfl,q⟩|⟨k,rfl,q⟩
 ·obtain ⟨u,rfl,t,rfl⟩:=iu r
  exact call_int_int ⟨.int i,H,I,⟨_,rfl⟩,q⟩
 ·obtain ⟨u,rfl,r1⟩:=iu r
  cases r1
  exact call_int_bool ⟨.int (if k then 1 else 0),H,I.tok _,⟨_,rfl⟩,q⟩
def KA:bQ X (.type "str") (λxs H Q=>∃i,xs=[.int i]/\i.natAbs.log2<1920/\Q (.str (toString i)) H):=by
 intro pins s U H xs us Q I r h
 obtain ⟨i,rfl,hz,q⟩:=h
 obtain ⟨u,rfl,t,rfl⟩:=iu r
 exact PySem.P.str_of_int hz ⟨.str _,H,I.tok _,⟨_,rfl⟩,q⟩
def Cu (K:PySem.W.Frag) (x:V) (H:Hp) (n:Nat):Prop :=
 match x with
 | .str y=>y.length<=sizeLine/\n=y.length
 | .byt y=>y.size<=sizeLine/\n=y.size
 | .ref p=>(∃xs,aQ K H p xs/\n=xs.length)\/∃xs,aW K H p xs/\n=xs.length
 | _=>False
theorem KC:bQ X (.builtin "len") (λxs H Q=>∃x n,xs=[x]/\Cu X.K x H n/\Q (.int n) H):=by
 intro pins s U H xs us Q I r h
 obtain ⟨x,n,rfl,e,q⟩:=h
 obtain ⟨u,rfl,rx⟩:=iu r
 have hl:=pH
 have hs:sizeLine=16777216:=sizeLine_eq
 cases x with
 | str y =>
  obtain ⟨t,rfl⟩:=rx
  obtain ⟨hy,e'⟩:y.length<=sizeLine/\n=y.length:=e
  subst e'
  exact len_str (by omega) ⟨.int _,H,I.tok _,⟨_,rfl⟩,q⟩
 | byt y =>
  obtain ⟨t,rfl⟩:=rx
  obtain ⟨hy,e'⟩:y.size<=sizeLine/\n=y.size:=e
  subst e'
  exact PySem.W.len_bytes (by omega) ⟨.int _,H,I.tok _,⟨_,rfl⟩,q⟩
 | ref p =>
  cases rx
  have e':(∃xs,aQ X.K H p xs/\n=xs.length)\/∃xs,aW X.K H p xs/\n=xs.length:=e
  rcases e' with ⟨xs,hx,e'⟩|⟨xs,hx,e'⟩
  ·subst e'
   obtain ⟨its,r',pl,hz⟩:=I.list hx
   have hlen:=r'.length
   exact Calls.call_len_list pl.isList (by simp only [yQ];omega) ⟨.int xs.length,H,I.tok _,⟨_,by simp only [yQ];rw [hlen]⟩,q⟩
  ·subst e'
   obtain ⟨its,r',pl,hz⟩:=I.tuple hx
   have hlen:=r'.length
   exact len_tuple pl (by simp only [yQ];omega) ⟨.int xs.length,H,I.tok _,⟨_,by simp only [yQ];rw [hlen]⟩,q⟩
 | _=>exact (show False from e).elim
end
structure gp (h:Heap) (x dx C:Addr) (mA:Ab):Prop where
 obj:h.get? x=some (PySem.W.instObj C dx)
 ns:h.Ns1 dx mA
 ne:dx≠x
def Cw {h:Heap}{dx:Addr}{mA:Ab}(n:h.Ns1 dx mA):∃od,h.get? dx=some od/\∀name,PySem.W.lookIn name od=some (mA name):=by
 obtain ⟨o,es,ep,ho,hd,hk,_,hm⟩:=n
 refine ⟨o,ho,λname=>?_⟩
 have e:=hm name
 unfold nsFind findBy at e
 rw [<-Array.find?_toList] at e
 unfold PySem.W.lookIn
 rw [hd]
 dsimp only
 split
 ·rename_i y q
  rw [q] at e
  exact congrArg some e
 ·rename_i q
  rw [q] at e
  have a:es.toList.any (·.refKey)=false:=by
   rw [List.any_eq_false]
   intro y hy
   obtain ⟨z,t,nG⟩:=hk y (Array.mem_toList_iff.mp hy)
   simp [DictEntry.refKey,nG]
  have a':¬es.toList.any (·.refKey)=true:=by rw [a];exact Bool.false_ne_true
  rw [zP a']
  exact congrArg some e
def gp.look {h:Heap}{x dx C:Addr}{mA:Ab}(I:gp h x dx C mA):∃od,PySem.W.InstAt h x (PySem.W.instObj C dx) C (some od)/\∀name,PySem.W.lookIn name od=some (mA name) :=
 let ⟨od,ho,hl⟩:=Cw I.ns
 ⟨od,⟨I.obj,rfl,rfl,ho⟩,hl⟩
section
variable {prog:Program}{w:World}{A:Around}{E:Aa}{s:Shared}{K:PySem.W.Frag}{x dx C f:Addr}{mA:Ab}{name:Str}{v:Value}
def KG {expr:Bool}{Q:Aa}(X:K.In s.heap) (I:gp s.heap x dx C mA) (hg:PySem.W.plainGet K C name=true) (hh:PySem.W.hasDictIn K C=true)
  (ha:PySem.W.findIn K (.ref C) name=some none) (hv:mA name=some v) (rO:PySem.W.handedIn v=true) (h:Q v { s with toks:=s.toks+1 }) :
  wpAny (model prog w) A (getAttr (.ref x) name expr) Q E s:=by
 obtain ⟨od,J,hl⟩:=I.look
 exact PySem.W.get_value X J (PySem.W.plainGet_of hg).1 (PySem.W.findObj_own hh ha rfl (by rw [hl,hv])) rO h
def KH {pl:Sem Bool}{Q:Value×List Value->Shared->Prop}(X:K.In s.heap) (I:gp s.heap x dx C mA) (hg:PySem.W.plainGet K C name=true)
  (hf:PySem.W.findIn K (.ref C) name=some (some (.ref f))) (ht:PySem.W.isFn K (.ref f)=true) (hv:mA name=none) (h:Q (.ref f,[.ref x]) s) :
  wpAny (model prog w) A (getMethod (.ref x) name pl) Q E s:=by
 obtain ⟨od,J,hl⟩:=I.look
 exact PySem.W.method_fn X J (PySem.W.plainGet_of hg).1 (PySem.W.plainGet_of hg).2 hf (beq_iff_eq.mp ht) (by show (PySem.W.lookIn name od).map (·.isSome)=some false;rw [hl,hv];rfl) h
theorem KI {ns:Ad}{Q:Unit->Shared->Prop}(X:K.In s.heap) (I:gp s.heap x dx C mA)
  (hs:PySem.W.findIn K (.ref C) "__setattr__" = some (some (.builtin "object.__setattr__"))) (hp:PySem.W.plainOver K C=true) (ht:PySem.W.takerIn K C name=some none) (hh:PySem.W.hasDictIn K C=true)
  (hw:PySem.Within mA ns) (hsz:ns.length<=sizeLine)
  (h:∀h',gp h' x dx C (λy=>if y=name then some v else mA y)->Heap.SameBut dx s.heap h'->Q () { s with heap:=h',toks:=s.toks+2 }) :
  wpAny (model prog w) A (setAttr (.ref x) name v) Q E s:=by
 obtain ⟨od,J,hl⟩:=I.look
 refine PySem.W.set_plain X J hs (PySem.W.osa_open (s:={ s with toks:=s.toks+1 }) (r:=none) X J hp ht λb=>?_)
 obtain ⟨cd,hc,gk⟩:=PySem.W.any_some hh
 have hx:s.heap.get? x=some ⟨.ref C,some dx,.plain,#[]⟩:=I.obj
 refine zx (zZ (zx (zx (wpAny_loadPart hx (zx (PySem.W.Looks.here (s:={ s with toks:=s.toks+1 }) (PySem.W.looks_clsIn X hc) ?_))))))
 rw [gk]
 refine zZ (a:=some dx) (zx (zZ (zx ?_)))
 refine wpAny_nsSet1 (s:={ s with toks:=s.toks+1 }) I.ns λh' fj fW=>?_
 obtain ⟨oD,VF,VG,KJ,KL,KN⟩:=fj.count (PySem.Within.cons name v hw)
 refine zx (wpAny_lookBehind KJ (by rw [KL];exact pastItsLine_dict (ja KN (by rw [jP];omega))) ?_)
 exact zZ (h _ ⟨(fW.2 _ (yT I.ne)).trans I.obj,fj,I.ne⟩ fW)
def KO {R:Result->Shared->Prop}{vs:Af}{kw:List (Str×Value)}(X:K.In s.heap) (hm:PySem.W.makesIn K C=true)
  (hi:PySem.W.findIn K (.ref C) "__init__" = some (some (.ref f))) (hf:PySem.W.typeIn K (.ref f)=some (.type "function"))
  (h:codeAny (model prog w) (A.under (.builtin "type.__call__" ⟨.ref C::vs,kw⟩)) (.call (.ref f) ⟨.ref (s.heap.objs.size+1)::vs,kw⟩) (PySem.W.InitBack (s.heap.objs.size+1) R)
   { s with heap:=(s.heap.push PySem.W.emptyDict).push (PySem.W.instObj C s.heap.objs.size) }) :
  codeAny (model prog w) A (.call (.ref C) ⟨vs,kw⟩) R s:=by
 obtain ⟨hh,g,d,t,os⟩:=s
 exact PySem.W.make_core (PySem.W.makes_of X hm) (PySem.W.looks_findIn X hi) (λself=>PySem.W.bind_fn X self hf) (.inl rfl) h
end
def cm (f:Str) (v:V):List (Str×V)->List (Str×V)
 | []=>[(f,v)]
 | (g,x)::r=>if g=f then (g,v)::r else (g,x)::cm f v r
theorem Cy (f g:Str) (v:V):∀fs:List (Str×V),(cm f v fs).lookup g=if g=f then some v else fs.lookup g
 | []=>by
  show List.lookup g [(f,v)]=_
  by_cases h:g=f
  ·have hb:(g==f)=true:=beq_iff_eq.mpr h
   simp only [List.lookup,hb,zF h]
  ·have hb:(g==f)=false:=beq_eq_false_iff_ne.mpr h
   simp only [List.lookup,hb,zP h]
 | (k,x)::r=>by
  have ih:=Cy f g v r
  rw [show cm f v ((k,x)::r)=(if k=f then (k,v)::r else (k,x)::cm f v r) from rfl]
  by_cases hk:k=f
  ·rw [zF hk]
   by_cases h:g=k
   ·have hb:(g==k)=true:=beq_iff_eq.mpr h
    simp only [List.lookup,hb,zF (h.trans hk)]
   ·have hb:(g==k)=false:=beq_eq_false_iff_ne.mpr h
    simp only [List.lookup,hb,zP (λe:g=f=>h (e.trans hk.symm))]
  ·rw [zP hk]
   by_cases h:g=k
   ·have hb:(g==k)=true:=beq_iff_eq.mpr h
    simp only [List.lookup,hb,zP (λe:g=f=>hk (h.symm.trans e))]
   ·have hb:(g==k)=false:=beq_eq_false_iff_ne.mpr h
    simp only [List.lookup,hb]
    exact ih
theorem zev (f:Str) (v:V):∀fs:List (Str×V),f∈(cm f v fs).map (·.1)/\∀g,g∈fs.map (·.1)->g∈(cm f v fs).map (·.1)
 | []=>⟨by simp [cm],λg h=>by simp at h⟩
 | (k,x)::r=>by
  obtain ⟨i1,i2⟩:=zev f v r
  rw [show cm f v ((k,x)::r)=(if k=f then (k,v)::r else (k,x)::cm f v r) from rfl]
  by_cases hk:k=f
  ·rw [zF hk]
   subst hk
   exact ⟨by simp,λg h=>by simpa using h⟩
  ·rw [zP hk]
   refine ⟨?_,λg h=>?_⟩
   ·rw [yu]
    exact jm _ i1
   ·rw [yu] at h ⊢
    rcases yC.mp h with e|e
    ·exact yC.mpr (.inl e)
    ·exact jm _ (i2 g e)
theorem Cz (f:Str) (v:V):∀fs:List (Str×V),(cm f v fs).length<=fs.length+1
 | []=>by simp [cm]
 | (k,x)::r=>by
  have ih:=Cz f v r
  rw [show cm f v ((k,x)::r)=(if k=f then (k,v)::r else (k,x)::cm f v r) from rfl]
  by_cases hk:k=f
  ·rw [zF hk,jP,jP];omega
  ·rw [zP hk,jP,jP];omega
def cz.some_of {v:V}{o:Option Value}(r:cz (some v) o):∃u,o=some u/\RelV v u:=by
 cases o with
 | none=>exact (show False from r).elim
 | some u=>exact ⟨u,rfl,r⟩
def cz.none_of {o:Option Value}(r:cz none o):o=none:=by
 cases o with
 | none=>rfl
 | some u=>exact (show False from r).elim
def CA {v:V}{u:Value}(r:RelV v u):PySem.W.handedIn u=true:=by
 cases v with
 | non=>cases (show u=Value.none from r);rfl
 | bl b=>cases (show u=Value.bool b from r);rfl
 | int i=>obtain ⟨t,e⟩:=(show ∃t,u=Value.int i t from r);cases e;rfl
 | str x=>obtain ⟨t,e⟩:=(show ∃t,u=Value.str x t from r);cases e;rfl
 | byt b=>obtain ⟨t,e⟩:=(show ∃t,u=Value.bytes b t from r);cases e;rfl
 | flt b=>obtain ⟨t,e⟩:=(show ∃t,u=Value.float b t from r);cases e;rfl
 | ref a=>cases (show u=Value.ref a from r);rfl
 | ty n=>cases (show u=Value.type n from r);rfl
section
variable {P:Program}{w:World}{H H':Hp}{h h':Heap}{a C dx:Addr}{fs Jk:List (Str×V)}
def rP (hok:cf P w H h) (e:H a=some (.ins C dx fs)):∃mA,gp h a dx C mA/\(∀f,cz (fs.lookup f) (mA f))/\PySem.Within mA (fs.map (·.1))/\fs.length<=1000/\H dx=some (.own a):=by
 obtain ⟨d,z,ne,ob,mA,n,r,q⟩:=(show aR P w H h a (.ins C dx fs) from hok a _ e)
 exact ⟨mA,⟨ob,n,ne⟩,r,q,z,d⟩
end
structure fq (K:PySem.W.Frag) (C:Addr):Prop where
 pg:PySem.W.plainGet K C Str.empty=true
 hd:PySem.W.hasDictIn K C=true
 po:PySem.W.plainOver K C=true
 sa:PySem.W.findIn K (.ref C) "__setattr__" = some (some (.builtin "object.__setattr__"))
def fq.get {K:PySem.W.Frag}{C:Addr}(c:fq K C) (f:Str):PySem.W.plainGet K C f=true:=c.pg
def dn (K:PySem.W.Frag) (C:Addr) (f:Str):Prop:=PySem.W.findIn K (.ref C) f=some none
def dn.taker {K:PySem.W.Frag}{C:Addr}{f:Str}(n:dn K C f):PySem.W.takerIn K C f=some none:=by
 unfold PySem.W.takerIn
 rw [show PySem.W.findIn K (.ref C) f=some none from n]
 rfl
structure VH (K:PySem.W.Frag) (C:Addr) (f:Str) (v:V) (u:Value):Prop where
 at_:PySem.W.findIn K (.ref C) f=some (some u)
 rel:RelV v u
 get:PySem.W.specialIn K u "__get__" = some none
 cp:PySem.W.copiedNames.contains f=false
structure Meth (K:PySem.W.Frag) (C:Addr) (m:Str) (f:Addr):Prop where
 at_:PySem.W.findIn K (.ref C) m=some (some (.ref f))
 fn:PySem.W.isFn K (.ref f)=true
 kp:PySem.W.keepIn K (.ref f)=true
section
variable {X:Cx}{pins:Ac}{U:St}{H:Hp}{s:Shared}{a C dx:Addr}{fs:List (Str×V)}{f:Str}{v:V}{A:Around}{E:Aa}
def KP {b:Bool}{Q:Aa}(I:Inv X pins U H s) (e:H a=some (.ins C dx fs)) (c:fq X.K C) (n:dn X.K C f) (l:fs.lookup f=some v)
  (h:∀u s',Inv X pins U H s'->RelV v u->Q u s'):wpAny (model X.prog X.w) A (getAttr (.ref a) f b) Q E s:=by
 obtain ⟨mA,O,r,_,_,_⟩:=rP I.hok e
 obtain ⟨u,hu,ru⟩:=cz.some_of (v:=v) (o:=mA f) (by rw [<-l];exact r f)
 exact KG I.kIn O (c.get f) c.hd n hu (CA ru) (h u _ (I.tok _) ru)
def KQ {m:Str}{g:Addr}{pl:Sem Bool}{Q:Value×List Value->Shared->Prop}(I:Inv X pins U H s) (e:H a=some (.ins C dx fs)) (c:fq X.K C) (k:Meth X.K C m g) (l:fs.lookup m=none)
  (h:Q (.ref g,[.ref a]) s):wpAny (model X.prog X.w) A (getMethod (.ref a) m pl) Q E s:=by
 obtain ⟨mA,O,r,_,_,_⟩:=rP I.hok e
 have hn:mA m=none:=cz.none_of (by rw [<-l];exact r m)
 exact KH I.kIn O (c.get m) k.at_ k.fn hn h
theorem KR {y:V}{u:Value}{Q:Unit->Shared->Prop}(I:Inv X pins U H s) (e:H a=some (.ins C dx fs)) (c:fq X.K C) (n:dn X.K C f) (hl:fs.length<1000) (ry:RelV y u)
  (h:∀s',Inv X pins U (upd H a (.ins C dx (cm f y fs))) s'->Q () s'):wpAny (model X.prog X.w) A (setAttr (.ref a) f u) Q E s:=by
 obtain ⟨mA,O,r,wi,_,ho⟩:=rP I.hok e
 have hz:(fs.map (·.1)).length<=sizeLine:=by rw [yI,sizeLine_eq];omega
 refine KI I.kIn O c.sa c.po n.taker c.hd wi hz λh' O' sb=>h _ ?_
 have hd:∃o,h'.get? dx=some o:=let ⟨o,_,_,e',_⟩:=O'.ns;⟨o,e'⟩
 refine I.write (x:=a) (e:=dx) (by rw [e];exact True.intro) (.inr ho) (λb q hb z=>(sb.2 b hb).trans z) hd ?_
 refine ⟨by rw [yE O.ne];exact ho,?_,O.ne,O'.obj,_,O'.ns,λg=>?_,λg hg=>?_⟩
 ·have:=Cz f y fs;omega
 ·show cz ((cm f y fs).lookup g) (if g=f then some u else mA g)
  rw [Cy]
  by_cases q:g=f
  ·rw [zF q,zF q];exact ry
  ·rw [zP q,zP q];exact r g
 ·by_cases q:g=f
  ·rw [q];exact (zev f y fs).1
  ·refine (zev f y fs).2 g (wi g λz=>hg ?_)
   show (if g=f then some u else mA g)=none
   rw [zP q];exact z
def Inv.made (I:Inv X pins U H s):Inv X pins U (upd (upd H s.heap.objs.size (.own (s.heap.objs.size+1))) (s.heap.objs.size+1) (.ins C s.heap.objs.size []))
  { s with heap:=(s.heap.push PySem.W.emptyDict).push (PySem.W.instObj C s.heap.objs.size) }:=by
 have e1:(s.heap.push PySem.W.emptyDict).get? s.heap.objs.size=some PySem.W.emptyDict:=yW s.heap rfl
 have e2:((s.heap.push PySem.W.emptyDict).push (PySem.W.instObj C s.heap.objs.size)).get? (s.heap.objs.size+1)=some (PySem.W.instObj C s.heap.objs.size):=by
  have:=yW (s.heap.push PySem.W.emptyDict) (o:=PySem.W.instObj C s.heap.objs.size) rfl
  rwa [Heap.size_push] at this
 have e3:(s.heap.push PySem.W.emptyDict).Ns s.heap.objs.size (λ_=>none):=⟨PySem.W.emptyDict,#[],_,e1,rfl,(λe he=>absurd he (by simp)),λ_=>rfl⟩
 have I1:=I.laid (a:=s.heap.objs.size) (o:=.own (s.heap.objs.size+1)) (h':=s.heap.push PySem.W.emptyDict) (t':=s.toks) (λb u q=>yh _ q) (ym _) ⟨_,e1⟩
 refine I1.laid (a:=s.heap.objs.size+1) (o:=.ins C s.heap.objs.size []) (t':=s.toks) (λb u q=>yh _ q) (Nat.le_of_eq (Heap.size_push _ _)) ?_
 have ne:s.heap.objs.size≠s.heap.objs.size+1:=jb (wv _)
 refine ⟨by rw [yE ne,jf],jB _,ne,e2,λ_=>none,(Heap.Ns1.of_empty e3).at λo q=>yh _ q,λ_=>True.intro,λy hy=>absurd rfl hy⟩
def KS {prog:Program}{w:World}{env:Env}{e:Expr}{f:Str}{pos:Pos}{s:Shared}{Q:Aa}(hb:attributeBase e f env (eval e env)=eval e env)
  (h:wpAny (model prog w) A (eval e env) (λo ao=>wpAny (model prog w) A (getAttr o f true) Q E ao) E s):wpAny (model prog w) A (eval (.Attribute e f pos) env) Q E s :=
 Attribute_any_ h (by rw [arm_eval_Attribute,hb])
end
def sFld (K:PySem.W.Frag) (ta tv:TE) (f:Str):TS:=λD U H=>tv U H λy H1=>ta U H1 λx H2=>∃a C dx fs,x=.ref a/\H2 a=some (.ins C dx fs)/\fq K C/\dn K C f/\fs.length<1000 /\
 D.nx U (upd H2 a (.ins C dx (cm f y fs)))
section
variable {X:Cx}{o e value:Expr}{f:Str}{pos pos' CB:Pos}{ta tv:TE}
def KU (ha:PE X o ta) (hv:PE X value tv) (hs:swapsWith value (some (.Attribute o f pos')) pos.line X.env=pure false):PS X (.Assign [.Attribute o f pos'] value pos) (sFld X.K ta tv f):=by
 intro pins s U H D I h
 refine plainObj_wpAny_Assign_Attribute (aP (hv pins s U H _ I h) λu s1 ⟨y,H1,I1,ry,q⟩=>aP (ha pins s1 U H1 _ I1 q) λov s2 ⟨x,H2,I2,rx,a,C,dx,fs,ex,ea,c,n,l,q2⟩=>?_) hs
 subst ex
 obtain rfl:ov=Value.ref a:=rx
 exact KR I2 ea c n l ry λs3 I3=>⟨U,_,I3,q2⟩
end
section
variable {X:Cx}{pins:Ac}{U:St}{H:Hp}{s:Shared}{A:Around}{E:Aa}{Q:Aa}{c:Value}{b:Bool}
inductive dB (K:PySem.W.Frag) (H:Hp):V->Value->Prop where
 | non:dB K H .non (.type "NoneType")
 | bl (x:Bool):dB K H (.bl x) (.type "bool")
 | int (i:Int):dB K H (.int i) (.type "int")
 | str (x:Str):dB K H (.str x) (.type "str")
 | flt (x:UInt64):dB K H (.flt x) (.type "float")
 | lst {a:Addr} {xs:List V} (e:H a=some (.lst xs)):dB K H (.ref a) (.type "list")
 | frz {a:Addr} {o:Obj} {xs:List V} (e:H a=some (.frz o (.lst xs))):dB K H (.ref a) (.type "list")
 | tup {a:Addr} {xs:List V} (e:H a=some (.tup xs)):dB K H (.ref a) (.type "tuple")
 | dK {a:Addr} {kvs:List (Key×V)} (e:H a=some (.dK kvs)):dB K H (.ref a) (.type "dict")
 | dT {a:Addr} {kvs:List (List Key×V)} (e:H a=some (.dT kvs)):dB K H (.ref a) (.type "dict")
 | ins {a C dx:Addr} {fs:List (Str×V)} (e:H a=some (.ins C dx fs)) (cl:fq K C) (ha:PySem.W.findIn K (.ref C) "__class__" = some (some (.builtin "object.__class__")))
   (hn:PySem.W.specialIn K (.builtin "object.__class__") "__get__" = some (some (.builtin "getset_descriptor.__get__"))) (CC:PySem.W.takesIn K (.builtin "object.__class__")=some true)
   (hm:PySem.W.mroIn K C (.type "object")=some true):dB K H (.ref a) (.ref C)
def KW {x:V}{u t:Value}(I:Inv X pins U H s) (rx:RelV x u) (ty:dB X.K H x t) (e:PySem.W.kitOne X.K t c=some b) (h:∀tk,Q (.bool b) { s with toks:=tk }) :
  wpAny (model X.prog X.w) A (call (.builtin "isinstance") [u,c]) Q E s:=by
 cases ty with
 | non=>cases (show u=Value.none from rx);exact PySem.W.kia_one PySem.W.kitx_none I.kIn True.intro e (λz=>nomatch z) h
 | bl y=>cases (show u=Value.bool y from rx);exact PySem.W.kia_one PySem.W.kitx_bool I.kIn True.intro e (λz=>nomatch z) h
 | int i=>obtain ⟨t,q⟩:=(show ∃t,u=Value.int i t from rx);cases q;exact PySem.W.kia_one PySem.W.kitx_int I.kIn True.intro e (λz=>nomatch z) h
 | str y=>obtain ⟨t,q⟩:=(show ∃t,u=Value.str y t from rx);cases q;exact PySem.W.kia_one PySem.W.kitx_str I.kIn True.intro e (λz=>nomatch z) h
 | flt y=>obtain ⟨t,q⟩:=(show ∃t,u=Value.float y t from rx);cases q;exact PySem.W.kia_one PySem.W.kitx_float I.kIn True.intro e (λz=>nomatch z) h
 | @lst a xs ea =>
  cases (show u=Value.ref a from rx)
  obtain ⟨_,_,n,_,h1⟩:=(show aR X.prog X.w H s.heap a (.lst xs) from I.hok a _ ea)
  exact PySem.W.kia_one PySem.W.kitx_list I.kIn ⟨_,h1,rfl⟩ e (λz=>nomatch z) h
 | @frz a ob xs ea =>
  cases (show u=Value.ref a from rx)
  obtain ⟨_,_,_,n,_,h1⟩:=(show aR X.prog X.w H s.heap a (.frz ob (.lst xs)) from I.hok a _ ea)
  exact PySem.W.kia_one PySem.W.kitx_list I.kIn ⟨_,h1,rfl⟩ e (λz=>nomatch z) h
 | @tup a xs ea =>
  cases (show u=Value.ref a from rx)
  obtain ⟨_,_,_,p⟩:=(show aR X.prog X.w H s.heap a (.tup xs) from I.hok a _ ea)
  obtain ⟨o,h1,h2,_⟩:=p
  exact PySem.W.kia_one PySem.W.kitx_tuple I.kIn ⟨o,h1,h2⟩ e (λz=>nomatch z) h
 | @dK a kvs ea =>
  cases (show u=Value.ref a from rx)
  obtain ⟨_,_,vs,_,p⟩:=(show aR X.prog X.w H s.heap a (.dK kvs) from I.hok a _ ea)
  obtain ⟨o,es,ep,h1,h2,_⟩:=p
  exact PySem.W.kia_one PySem.W.kitx_dict I.kIn ⟨o,h1,h2.1⟩ e (λz=>nomatch z) h
 | @dT a kvs ea =>
  cases (show u=Value.ref a from rx)
  obtain ⟨_,_,xs,_,o,es,ep,h1,h2,_⟩:=(show aR X.prog X.w H s.heap a (.dT kvs) from I.hok a _ ea)
  exact PySem.W.kia_one PySem.W.kitx_dict I.kIn ⟨o,h1,h2.1⟩ e (λz=>nomatch z) h
 | @ins a C dx fs ea cl ha hn CC hm =>
  cases (show u=Value.ref a from rx)
  obtain ⟨mA,O,_⟩:=rP I.hok ea
  obtain ⟨od,J,_⟩:=O.look
  exact PySem.W.kia_one (PySem.W.kitx_own (cl.get _) cl.hd ha hn CC hm) I.kIn J e (λz=>nomatch z) h
end
structure bt (k:Nat) (A:Around):Prop where
 hd:A.handled=none
 dp:A.depth+3*k+5<recursionLimit
 un:A.units+16*k+200<cLine
theorem bt.mono {j k:Nat}{A:Around}(r:bt k A) (h:j<=k):bt j A:=⟨r.hd,by have:=r.dp;omega,by have:=r.un;omega⟩
theorem bt.deeper {k:Nat}{A:Around}(r:bt (k+1) A) (env:Env):bt k (A.deeper env) :=
 ⟨r.hd,by have:=r.dp;show A.depth+1+3*k+5<_;omega,by have:=r.un;show A.units+3+16*k+200<_;omega⟩
def KY {A:Around} {C:Addr} {us:Af} {kw:List (Str×Value)}:(A.under (.builtin "type.__call__" ⟨.ref C::us,kw⟩)).depth=A.depth+1:=by
 first|rfl|simp [Around.under,Code.weight,Code.isCreation,Code.isGuard,Code.isCaller,Code.frames,Code.isFrame,guardIds]
def KZ {A:Around} {C:Addr} {us:Af} {kw:List (Str×Value)}:(A.under (.builtin "type.__call__" ⟨.ref C::us,kw⟩)).units=A.units+1:=by
 first|rfl|simp [Around.under,Code.cUnits,Code.frames,Code.isFrame]
theorem bt.make {k:Nat} {A:Around} (r:bt (k+1) A) (C:Addr) (us:Af) (kw:List (Str×Value)):bt k (A.under (.builtin "type.__call__" ⟨.ref C::us,kw⟩)) :=
 ⟨r.hd,by have:=r.dp;rw [KY];omega,by have:=r.un;rw [KZ];omega⟩
theorem bt.depth {k:Nat}{A:Around}(r:bt k A):A.depth<recursionLimit:=by have:=r.dp;omega
def K0:TA:=λ_ H Q=>Q [] H
def K4 (ta:TE) (tr:TA):TA:=λU H Q=>ta U H λx H1=>tr U H1 λxs H2=>Q (x::xs) H2
section
variable {X:Cx}{e:Expr}{es:List Expr}{te:TE}{t:TA}{pos:Pos}
def rQ:PA X [] K0:=λ_ _ _ _ H Q I h=>Calls.spliced_nil ⟨[],H,I,.nil,h⟩
def rR (ha:PE X e te) (hr:PA X es t) (hs:starEach (e::es) X.env=(false,eval e X.env)::starEach es X.env:=by rfl):PA X (e::es) (K4 te t):=by
 intro pos pins s U H Q I h
 rw [hs]
 show wpAny _ _ (spliced ((false,eval e X.env)::backTo pos (starEach es X.env))) _ _ s
 refine Calls.spliced_cons (aP (ha pins s U H _ I h) λu s1 ⟨x,H1,I1,r1,q1⟩=>?_)
 exact aP (hr pos pins s1 U H1 _ I1 q1) λus s2 ⟨xs,H2,I2,r2,q2⟩=>⟨x::xs,H2,I2,.cons r1 r2,q2⟩
def K5 (t:TA):TE:=λU H Q=>t U H λxs H1=>xs.length<=sizeLine/\∀p,H1 p=none->Q (.ref p) (upd H1 p (.tup xs))
def K6 (t:TA):TE:=λU H Q=>t U H λxs H1=>xs.length<=sizeLine/\∀p,H1 p=none->Q (.ref p) (upd H1 p (.lst xs))
def K7 {x1}(h:PA X es t):PE X (.Tuple es x1 pos) (K5 t):=by
 intro pins s U H Q I hq
 refine wpAny_Tuple_spliced (aP (h pos pins s U H _ I hq) λus s1 ⟨xs,H1,I1,r,z,q⟩=>⟨by rw [<-r.length];exact z,?_⟩)
 have hf:H1 s1.heap.objs.size=none:=I1.hok.fresh (ym _)
 refine ⟨.ref s1.heap.objs.size,upd H1 s1.heap.objs.size (.tup xs),I1.laid (t':=s1.toks) (λb u e=>yh _ e) (ym _) ?_,rfl,q _ hf⟩
 exact ⟨z,us,r,⟨_,yW _ rfl,rfl,_,rfl⟩⟩
def K8 (h:PA X es t):PE X (.List es pos) (K6 t):=by
 intro pins s U H Q I hq
 refine wpAny_List_spliced (aP (h pos pins s U H _ I hq) λus s1 ⟨xs,H1,I1,r,z,q⟩=>⟨by rw [<-r.length];exact z,?_⟩)
 have hf:H1 s1.heap.objs.size=none:=I1.hok.fresh (ym _)
 refine ⟨.ref s1.heap.objs.size,upd H1 s1.heap.objs.size (.lst xs),I1.laid (t':=s1.toks) (λb u e=>yh _ e) (ym _) ?_,rfl,q _ hf⟩
 exact ⟨z,us,0,r,yW _ rfl⟩
end
abbrev Sp:=List V->Hp->VK->XK->Prop
abbrev fy:=List Env->Hp->Shared->XK->Aa
structure gq (P:Program) (w:World) (K:PySem.W.Frag) (mg:Ab) (base:Heap) (A:Around) (outer:List Env) (s:Shared) (H:Hp):Prop where
 frames:A.frames=some outer
 mod:Mod K mg base
 bs:∀b o,base.get? b=some o->s.heap.get? b=some o/\H b=none
 bsz:base.objs.size<=s.heap.objs.size
 funs:s.heap.FunFrames base outer
 frf:∀b∈dc outer,H b=none
 hok:cf P w H s.heap
 bare:AllBare s.gens
def CE (outer:List Env) (P:Program) (w:World) (H:Hp) (s:Shared) (Q:VK) (u:Value) (s':Shared):Prop :=
 ∃v H',s'.os=s.os/\AllBare s'.gens/\Un (dc outer) [] H H' s.heap s'.heap/\cf P w H' s'.heap/\RelV v u/\Q v H'
def CR (CX:fy) (outer:List Env) (P:Program) (w:World) (H:Hp) (s:Shared) (Q:VK) (E:XK) (r:Result) (s':Shared):Prop :=
 match r with
 | .ok (.ret u)=>CE outer P w H s Q u s'
 | .ok _=>False
 | .error e=>CX outer H s E e s'
structure bG (P:Program) (w:World) (K:PySem.W.Frag) (mg:Ab) (base:Heap) (CX:fy) (k:Nat) (f:Addr) (fd:FuncData) (ps:Ad) (sp:Sp):Prop where
 len:∀vs H Q E,sp vs H Q E->vs.length=ps.length
 run:∀(A:Around) (outer:List Env) (s:Shared) (H:Hp) (args:Args) (us:Af) (vs:List V) (Q:VK) (E:XK),bt k A->gq P w K mg base A outer s H->BindsTo s fd args (ps.zip us)->Vals vs us->sp vs H Q E ->
  codeAny (model P w) A (.call (.ref f) args) (CR CX outer P w H s Q E) s
def bG.mono {P:Program}{w:World}{K:PySem.W.Frag}{mg:Ab}{base:Heap}{CX:fy}{j k:Nat}{f:Addr}{fd:FuncData}{ps:Ad}{sp:Sp}(F:bG P w K mg base CX j f fd ps sp) (h:j<=k) :
  bG P w K mg base CX k f fd ps sp:=⟨F.len,λA outer s H args us vs Q E hr=>F.run A outer s H args us vs Q E (hr.mono h)⟩
def bG.imp {P:Program}{w:World}{K:PySem.W.Frag}{mg:Ab}{base:Heap}{CX:fy}{k:Nat}{f:Addr}{fd:FuncData}{ps:Ad}{sp CD:Sp}(F:bG P w K mg base CX k f fd ps sp)
  (h:∀vs H Q E,CD vs H Q E->sp vs H Q E):bG P w K mg base CX k f fd ps CD :=
 ⟨λvs H Q E q=>F.len vs H Q E (h _ _ _ _ q),λA outer s H args us vs Q E hr he hb hv hs=>F.run A outer s H args us vs Q E hr he hb hv (h _ _ _ _ hs)⟩
def gq.make {P:Program}{w:World}{K:PySem.W.Frag}{mg:Ab}{base:Heap}{A:Around}{outer:List Env}{s:Shared}{H:Hp}(e:gq P w K mg base A outer s H) (C:Addr) (us:Af) (kw:List (Str×Value)) :
  gq P w K mg base (A.under (.builtin "type.__call__" ⟨.ref C::us,kw⟩)) outer s H:=⟨by first|exact e.frames|(simpa [Around.under,Code.envs,Code.isFrame,pushEnvs] using e.frames),e.mod,e.bs,e.bsz,e.funs,e.frf,e.hok,e.bare⟩
section
variable {X:Cx}{pins:Ac}{U:St}{H:Hp}{s s':Shared}
def Inv.env0 (I:Inv X pins U H s):gq X.prog X.w X.K X.mg X.base X.A X.stack s H :=
 ⟨I.ok.frames,I.ok.mod,I.bs,ja I.ok.bsz I.sz,I.stack,I.stkFree,I.hok,I.bare⟩
def Inv.after {Q:VK}{u:Value}(I:Inv X pins U H s) (h:CE X.stack X.prog X.w H s Q u s'):EP X pins U Q u s':=by
 obtain ⟨v,H',os,bare,un,hok,r,q⟩:=h
 obtain ⟨hh,g,d,t,K9⟩:=s'
 obtain rfl:K9=s.os:=os
 exact ⟨v,H',I.call (h':=hh) (g':=g) (d':=d) (t':=t) (ch:=[]) un hok bare (λb z=>absurd z (by simp)),r,q⟩
end
def K_ (sp:Sp) (eD:List V) (E:XK) (t:TA):TE:=λU H Q=>t U H λvs H1=>sp (vs++eD) H1 Q E
def La (C:Addr) (sp:Sp) (eD:List V) (E:XK) (t:TA):TE:=λU H Q=>t U H λvs H1=>∀x dx,H1 x=none->H1 dx=none->dx≠x ->
 sp (.ref x::(vs++eD)) (upd (upd H1 dx (.own x)) x (.ins C dx [])) (λv H2=>v=.non/\Q (.ref x) H2) E
def Binds (K:PySem.W.Frag) (fd:FuncData) (ps:Ad) (ds:Af):Prop :=
 ∀(s:Shared) (us:Af),K.In s.heap->(us++ds).length=ps.length->BindsTo s fd ⟨us,[]⟩ (ps.zip (us++ds))
def Binds.all {K:PySem.W.Frag}{fd:FuncData}{ps:Ad}(h:∀us:Af,us.length=ps.length->bindArgs fd ⟨us,[]⟩=pure (ps.zip us)):Binds K fd ps []:=λs us _ hl=>by
 rw [List.append_nil] at hl ⊢
 exact .of_eq (h us hl)
def Passes (CX:fy) (X:Cx) (E:XK):Prop:=∀(pins:Ac) (U:St) (H:Hp) (s:Shared) (e:Value) (s':Shared),Inv X pins U H s->CX X.stack H s E e s'->X.xe e s'
section
variable {X:Cx}{CX:fy}{k:Nat}{f C:Addr}{fd:FuncData}{ps:Ad}{sp:Sp}{eD:List V}{ds:Af}{E:XK}{x m:Str}{p pos apos:Pos}{e o:Expr}{es:List Expr}{ta:TE}{t:TA}
def CF {pins:Ac}{U:St}{H:Hp}{s:Shared}{Q:VK}{us:Af}{vs:List V}(F:bG X.prog X.w X.K X.mg X.base CX k f fd ps sp) (hr:bt k X.A) (hb:Binds X.K fd ps ds) (hd:Vals eD ds) (hx:Passes CX X E)
  (I:Inv X pins U H s) (r:Vals vs us) (h:sp (vs++eD) H Q E):wpAny (model X.prog X.w) X.A (call (.ref f) us) (EP X pins U Q) X.xe s:=by
 have r2:Vals (vs++eD) (us++ds):=r.append hd
 have hl:(us++ds).length=ps.length:=by rw [<-r2.length];exact F.len _ _ _ _ h
 refine wpAny_call (codeAny_mono (F.run X.A X.stack s H ⟨us,[]⟩ (us++ds) (vs++eD) Q E hr I.env0 (hb s us I.kIn hl) r2 h) λr s' hq=>?_)
 cases r with
 | error e=>exact hx pins U H s e s' I hq
 | ok fl =>
  cases fl with
  | ret u=>exact I.after hq
  | next=>exact hq.elim
  | brk=>exact hq.elim
  | cont=>exact hq.elim
def Lb (F:bG X.prog X.w X.K X.mg X.base CX k f fd ps sp) (hr:bt k X.A) (hg:Gl X x) (hm:X.mg x=some (.ref f)) (hk:PySem.W.keepIn X.K (.ref f)=true) (hb:Binds X.K fd ps ds) (hd:Vals eD ds) (hx:Passes CX X E)
  (ha:PA X (e::es) t) (eU:(x==("__debug__" : Str))=false:=by decide) (he:starEach (e::es) X.env=(false,eval e X.env)::starEach es X.env:=by rfl) (bU:(backTo pos (starEach es X.env)).any (·.1)=false:=by rfl) :
  PE X (.Call (.Name x p) (e::es) [] pos) (K_ sp eD E t):=by
 intro pins s U H Q I h
 refine wpAny_Call_Name_kw (Cn I hg hm ?_ eU)
 refine PySem.W.callWith_K (h₀:=X.base) I.ok.mod.kin hk (aP (ha pos pins s U H _ I h) λus s1 ⟨vs,H1,I1,r,q⟩=>⟨I1.kIn,?_⟩) he bU
 exact CF F hr hb hd hx I1 r q
structure Mk (K:PySem.W.Frag) (C f:Addr):Prop where
 makes:PySem.W.makesIn K C=true
 init:PySem.W.findIn K (.ref C) "__init__" = some (some (.ref f))
 fn:PySem.W.isFn K (.ref f)=true
 kp:PySem.W.keepIn K (.ref C)=true
def Lc {pins:Ac}{U:St}{H:Hp}{s:Shared}{Q:VK}{us:Af}{vs:List V}(M:Mk X.K C f) (F:bG X.prog X.w X.K X.mg X.base CX k f fd ps sp) (hr:bt (k+1) X.A) (hb:Binds X.K fd ps ds) (hd:Vals eD ds)
  (hx:Passes CX X E) (I:Inv X pins U H s) (r:Vals vs us)
  (h:∀x dx,H x=none->H dx=none->dx≠x->sp (.ref x::(vs++eD)) (upd (upd H dx (.own x)) x (.ins C dx [])) (λv H2=>v=.non/\Q (.ref x) H2) E) :
  wpAny (model X.prog X.w) X.A (call (.ref C) us) (EP X pins U Q) X.xe s:=by
 have hq:=h (s.heap.objs.size+1) s.heap.objs.size (I.hok.fresh (Nat.le_succ _)) (I.hok.fresh (ym _)) (jb (wv _))
 have I2:=Inv.made (C:=C) I
 have r2:Vals (V.ref (s.heap.objs.size+1)::(vs++eD)) (Value.ref (s.heap.objs.size+1)::(us++ds)):=.cons rfl (r.append hd)
 have hl:(Value.ref (s.heap.objs.size+1)::us++ds).length=ps.length:=by
  have e:=r2.length
  rw [F.len _ _ _ _ hq] at e
  exact e.symm
 refine wpAny_call (KO (f:=f) I.kIn M.makes M.init (beq_iff_eq.mp M.fn) (codeAny_mono (F.run _ X.stack _ _ ⟨Value.ref (s.heap.objs.size+1)::us,[]⟩ (Value.ref (s.heap.objs.size+1)::(us++ds)) _ _ E (hr.make C us [])
  (I2.env0.make C us []) (hb _ (Value.ref (s.heap.objs.size+1)::us) I2.kIn hl) r2 hq) λr s' hq'=>?_))
 cases r with
 | error e=>exact hx pins U _ _ e s' I2 hq'
 | ok fl =>
  cases fl with
  | ret u =>
   obtain ⟨v,H',I3,rv,ev,q3⟩:=I2.after hq'
   subst ev
   exact ⟨rv,⟨V.ref (s.heap.objs.size+1),H',I3,rfl,q3⟩⟩
  | next=>exact hq'.elim
  | brk=>exact hq'.elim
  | cont=>exact hq'.elim
def Ld (M:Mk X.K C f) (F:bG X.prog X.w X.K X.mg X.base CX k f fd ps sp) (hr:bt (k+1) X.A) (hg:Gl X x) (hm:X.mg x=some (.ref C)) (hb:Binds X.K fd ps ds) (hd:Vals eD ds) (hx:Passes CX X E)
  (ha:PA X (e::es) t) (eU:(x==("__debug__" : Str))=false:=by decide) (he:starEach (e::es) X.env=(false,eval e X.env)::starEach es X.env:=by rfl) (bU:(backTo pos (starEach es X.env)).any (·.1)=false:=by rfl) :
  PE X (.Call (.Name x p) (e::es) [] pos) (La C sp eD E t):=by
 intro pins s U H Q I h
 refine wpAny_Call_Name_kw (Cn I hg hm ?_ eU)
 refine PySem.W.callWith_K (h₀:=X.base) I.ok.mod.kin M.kp (aP (ha pos pins s U H _ I h) λus s1 ⟨vs,H1,I1,r,q⟩=>⟨I1.kIn,?_⟩) he bU
 exact Lc M F hr hb hd hx I1 r q
end
section
variable {X:Cx}{CX:fy}{k:Nat}{f C:Addr}{fd:FuncData}{ps ks:Ad}{sp:Sp}{E:XK}{x m:Str}{p pos apos Vy:Pos}{e o:Expr}{es:List Expr}{VI:List Keyword}{te ta:TE}{t tk:TA}{nm:Option Str}
structure I_ (K:PySem.W.Frag) (fd:FuncData) (ps ks:Ad) (g:List Value->List Value->Af) (gV:List V->List V->List V):Prop where
 to:∀(s:Shared) (us ws:Af),K.In s.heap->(g us ws).length=ps.length->BindsTo s fd ⟨us,ks.zip ws⟩ (ps.zip (g us ws))
 rel:∀{vs:List V} {us:Af} {zs:List V} {ws:Af},Vals vs us->Vals zs ws->Vals (gV vs zs) (g us ws)
variable {g:List Value->List Value->Af}{gV:List V->List V->List V}
end
structure au (N P:Ad) (sc:Scope):Prop where
 kind:sc.kind=.function
 co:sc.isCoroutine=false
 gen:sc.isGenerator=false
 nd:N.Nodup
 pre:N.take P.length=P
 par:∀x∈P,sc.names.lookup x=some .local\/sc.names.lookup x=some .cell
 nofree:∀y∈sc.names,y.2 ≠ .free
theorem CG {kindOf:Str->Option NameKind}{x:Str}:∀{binds:List (Str×Value)}{m:Ab},(∀v,(x,v)∉binds)->bindL kindOf binds m x=m x
 | [],_,_=>rfl
 | (n,v)::r,m,h=>by
  unfold bindL
  rw [CG λw hw=>h w (jm _ hw)]
  split
  ·have:x≠n:=by rintro rfl;exact h v y0
   simp [this]
  ·rfl
theorem CH {kindOf:Str->Option NameKind}{x:Str}:∀{binds:List (Str×Value)}{m:Ab},(∀v,(x,v)∉binds)->bindC kindOf binds m x=m x
 | [],_,_=>rfl
 | (n,v)::r,m,h=>by
  unfold bindC
  rw [CH λw hw=>h w (jm _ hw)]
  split
  ·rfl
  ·have:x≠n:=by rintro rfl;exact h v y0
   simp [this]
theorem CI {kindOf:Str->Option NameKind}{x:Str}{v:Value}:∀{P:Ad}{vs:Af}{i:Nat}{m:Ab},P.Nodup->P[i]?=some x->vs[i]?=some v->kindOf x=some .local ->
  bindL kindOf (P.zip vs) m x=some v
 | [],_,_,_,_,h,_,_=>by simp at h
 | _::_,[],_,_,_,_,h,_=>by simp at h
 | p::P,w::vs,0,m,nd,h1,h2,hk=>by
  simp at h1 h2;subst h1;subst h2
  show bindL kindOf ((p,w)::P.zip vs) m p=_
  unfold bindL
  rw [CG λv hv=>(jH.mp nd).1 (List.of_mem_zip hv).1,zF hk]
  simp
 | p::P,w::vs,i+1,m,nd,h1,h2,hk=>by
  show bindL kindOf ((p,w)::P.zip vs) m x=_
  unfold bindL
  exact CI (i:=i) (jH.mp nd).2 (by simpa using h1) (by simpa using h2) hk
theorem CJ {kindOf:Str->Option NameKind}{x:Str}{v:Value}:∀{P:Ad}{vs:Af}{i:Nat}{m:Ab},P.Nodup->P[i]?=some x->vs[i]?=some v->kindOf x≠some .local ->
  bindC kindOf (P.zip vs) m x=some v
 | [],_,_,_,_,h,_,_=>by simp at h
 | _::_,[],_,_,_,_,h,_=>by simp at h
 | p::P,w::vs,0,m,nd,h1,h2,hk=>by
  simp at h1 h2;subst h1;subst h2
  show bindC kindOf ((p,w)::P.zip vs) m p=_
  unfold bindC
  rw [CH λv hv=>(jH.mp nd).1 (List.of_mem_zip hv).1,zP hk]
  simp
 | p::P,w::vs,i+1,m,nd,h1,h2,hk=>by
  show bindC kindOf ((p,w)::P.zip vs) m x=_
  unfold bindC
  exact CJ (i:=i) (jH.mp nd).2 (by simpa using h1) (by simpa using h2) hk
def start (N:Ad) (vs:List V):St:=vs.map some++List.replicate (N.length-vs.length) none
def dY (CX:fy) (P:Program) (w:World) (K:PySem.W.Frag) (mg:Ab) (base:Heap) (N:Ad) (qual:Str) (scope:Scope) (f:Addr) (cd:Value) (A:Around) (outer:List Env) (s:Shared) (H:Hp) (E:XK):Cx where
 prog:=P
 w:=w
 K:=K
 mg:=mg
 base:=base
 A:=A.deeper (envOfC qual scope s.heap.objs.size f cd)
 N:=N
 s₀:=s
 H₀:=H
 env:=envOfC qual scope s.heap.objs.size f cd
 outer:=outer
 stack:=envOfC qual scope s.heap.objs.size f cd::outer
 ex:=[]
 calm:=true
 fn:=λ_=>true
 pn:=[]
 xe:=λe s'=>wpAny (model P w) (A.deeper (envOfC qual scope s.heap.objs.size f cd)) (leaving (envOfC qual scope s.heap.objs.size f cd) e) (λ_ pI=>CX outer H s E e pI) (λe' pI=>CX outer H s E e' pI) s'
def CK {sc:Scope}{n:Nat}{x:Str}(h:sc.names.lookup x=some .cell):∃c,(cellsFrom n sc.names []).lookup x=some c:=by
 have q:=PySem.W.cellsFrom_some sc.names n [] (.inl h)
 exact Option.isSome_iff_exists.mp q
theorem Le {CX:fy}{P:Program}{w:World}{K:PySem.W.Frag}{mg:Ab}{base:Heap}{N ps:Ad}{qual:Str}{scope:Scope}{f:Addr}{cd:Value}{A:Around}{outer:List Env}{s s1:Shared}{H:Hp}{E:XK}{us:Af}{vs:List V}
  (S:au N ps scope) (hd:A.handled=none) (e0:gq P w K mg base A outer s H) (hl:vs.length=ps.length) (r:Vals vs us)
  (x:InCallC s s.heap.objs.size (bindL (envOfC qual scope s.heap.objs.size f cd).kindOf (ps.zip us) λ_=>none) (cellsFrom (s.heap.objs.size+1) scope.names []) (bindC (envOfC qual scope s.heap.objs.size f cd).kindOf (ps.zip us) λ_=>none) s1) :
  Inv (dY CX P w K mg base N qual scope f cd A outer s H E) [] (start N vs) H s1:=by
 have bU:ps.length<=N.length:=by have:=congrArg List.length S.pre;rw [List.length_take] at this;omega
 obtain ⟨h1,tk,rfl,hk⟩:=x.done
 have pJ:∀b:Addr,b∉(dY CX P w K mg base N qual scope f cd A outer s H E).ex:=λb z=>absurd (show b∈([]:Ae) from z) (by simp)
 refine ⟨⟨e0.mod,S.kind,rfl,rfl,ym _,λy z c h1 h2=>?_,λy hy=>?_,λy c _ h=>?_,λ_=>hd,Around.frames_deeper e0.frames,.inr ⟨rfl,rfl⟩,λb z=>absurd z (pJ b),e0.bs,e0.bsz,λb _ _=>pJ b,λb z=>absurd z (pJ b),e0.funs,e0.frf⟩,
  rfl,e0.bare,Un.kept hk,⟨_,x.toInCall.ns,λi y v h1 h2 h3=>?_⟩,λy c h=>⟨_,x.cell y c h⟩,e0.hok.fresh (ym _),λy c h=>?_,λp hp=>absurd (show p∈([]:Ac) from hp) (by simp),e0.hok.kept hk,?_⟩
 ·exact name_of_addr x.apart (PySem.mem_of_lookup h1) (PySem.mem_of_lookup h2)
 ·have hy:scope.names.lookup y=some .cell\/scope.names.lookup y=some .free:=hy
  rcases hy with hy|hy
  ·exact CK hy
  ·exact absurd rfl (S.nofree _ (PySem.mem_of_lookup hy))
 ·exact Nat.le_of_lt (x.above y c (PySem.mem_of_lookup h))
 ·have hi:i<vs.length:=by
   unfold start at h2
   by_cases hi:i<vs.length
   ·exact hi
   ·rw [iU (by simpa using hi)] at h2
    rw [List.getElem?_replicate] at h2
    split at h2<;>cases h2
  have ha:vs[i]?=some v:=by
   unfold start at h2
   rw [gi (by simpa using hi),yM] at h2
   cases e:vs[i]? with
   | none=>rw [e] at h2;cases h2
   | some a=>rw [e] at h2;cases h2;rfl
  obtain ⟨u,hu,rv⟩:=r.get ha
  have hp:ps[i]?=some y:=by
   rw [<-S.pre,List.getElem?_take_of_lt (by omega)];exact h1
  have CL:ps.Nodup:=by rw [<-S.pre];exact S.nd.sublist (List.take_sublist _ _)
  refine ⟨u,rv,?_⟩
  rcases S.par y (wb hp) with k|k
  ·exact .inl ⟨k,CI CL hp hu k⟩
  ·obtain ⟨c,e⟩:=CK (n:=s.heap.objs.size+1) k
   refine .inr ⟨.inl k,c,e,?_⟩
   have q:=x.cell y c e
   rw [CJ CL hp hu (by show scope.names.lookup y≠_;rw [k];decide)] at q
   exact q
 ·exact e0.hok.fresh (Nat.le_of_lt (x.above y c (PySem.mem_of_lookup h)))
 ·unfold start
  show _=N.length
  rw [h_,yI,List.length_replicate]
  omega
def Lf {CX:fy}{P:Program}{w:World}{K:PySem.W.Frag}{mg:Ab}{base:Heap}{k:Nat}{f:Addr}{name qual:Str}{params:Arguments}{body:List Stmt}{scope:Scope}{dV kV doc pm aU ct oc:Value}{an od:Option Addr}
  {fK:Array (Option Value)} {N ps:Ad} {sp:Sp} (lk:K.lookup f=some ⟨oc,od,.func (PySem.W.fnOf name qual params body scope dV kV doc pm an aU ct),fK⟩) (fH:PySem.W.codeIn K aU qual=true) (S:au N ps scope)
  (len:∀vs H Q E,sp vs H Q E->vs.length=ps.length)
  (gu:∀(A:Around) (outer:List Env) (s:Shared) (H:Hp) (vs:List V) (Q:VK) (E:XK),bt k (A.deeper (envOfC qual scope s.heap.objs.size f aU))->sp vs H Q E ->
   ∃t,de (dY CX P w K mg base N qual scope f aU A outer s H E) body t/\t { nx:=λ_ H'=>Q .non H',rt:=Q } (start N vs) H) :
  bG P w K mg base CX (k+1) f (PySem.W.fnOf name qual params body scope dV kV doc pm an aU ct) ps sp:=by
 refine ⟨len,λA outer s H args us vs Q E hr e0 hb r kO=>?_⟩
 have hl:=len _ _ _ _ kO
 have KX:K.In s.heap:=e0.mod.kin.keeps λb o e=>(e0.bs b o e).1
 have lim:s.heap.NoLimit:=e0.mod.nolimit.keeps λb o e=>(e0.bs b o e).1
 have vm:∀y∈ps.zip us,scope.names.lookup y.1=some .local\/(scope.names.lookup y.1=some .cell/\((cellsFrom (s.heap.objs.size+1) scope.names []).lookup y.1).isSome=true):=λ⟨n,v⟩ hy=>by
  rcases S.par n (List.of_mem_zip hy).1 with q|q
  ·exact .inl q
  ·exact .inr ⟨q,PySem.W.cellsFrom_some _ _ _ (.inl q)⟩
 refine codeAny_call_function hr.depth (KX _ _ lk) rfl S.co S.gen rfl (PySem.W.codeRec_of KX fH) (hb _ _ _ _ ?_)
 refine wpAny_newFunctionEnv_cells S.kind vm λenv he s1 x=>?_
 subst he
 refine ⟨lim.keeps x.toInCall.keep,codeAny_func ?_⟩
 obtain ⟨t,ht,hq⟩:=gu A outer s H vs Q E (hr.deeper _) kO
 have I:Inv (dY CX P w K mg base N qual scope f aU A outer s H E) [] (start N vs) H s1:=Le S hr.hd e0 hl r x
 refine jX (ht [] s1 (start N vs) H _ I hq) (λfl s' hs=>?_) λe s' hs=>hs
 have fin:∀{ai:St} {H':Hp} {v:V} {u:Value},Inv (dY CX P w K mg base N qual scope f aU A outer s H E) [] ai H' s'->RelV v u->Q v H'->CE outer P w H s Q u s' :=
  λ{ai H' v u} J rv q=>⟨v,H',J.os,J.bare,J.base,J.hok,rv,q⟩
 cases fl with
 | ret u =>
  obtain ⟨v,ai,H',J,rv,q⟩:=hs
  exact fin J rv q
 | next =>
  obtain ⟨ai,H',J,q⟩:=hs
  exact fin (v:=V.non) (u:=Value.none) J rfl q
 | brk =>
  obtain ⟨_,_,_,q⟩:=hs
  exact q.elim
 | cont =>
  obtain ⟨_,_,_,q⟩:=hs
  exact q.elim
section
variable {X:Cx}{x:Str}{p pos:Pos}{e:Expr}{es:List Expr}{t:TA}{id T:String}{r:List V->Hp->VK->Prop}
def CM (r:List V->Hp->VK->Prop) (t:TA):TE:=λU H Q=>t U H λvs H1=>r vs H1 Q
def Lg (hc:bQ X (.builtin id) r) (hg:Gl X x) (hm:X.mg x=none) (hv:bootBuiltins x=some (.builtin id)) (ha:PA X (e::es) t) (hn:x ≠ "__name__" := by decide) (eU:(x==("__debug__" : Str))=false:=by decide)
  (he:starEach (e::es) X.env=(false,eval e X.env)::starEach es X.env:=by rfl) (bU:(backTo pos (starEach es X.env)).any (·.1)=false:=by rfl):PE X (.Call (.Name x p) (e::es) [] pos) (CM r t):=by
 intro pins s U H Q I h
 refine wpAny_Call_Name_kw (kM I hg hm hv ?_ hn eU)
 exact PyProof.Rows.callWith_builtin1 (aP (ha pos pins s U H _ I h) λus s1 ⟨vs,H1,I1,r1,q1⟩=>hc pins s1 U H1 vs us Q I1 r1 q1) he bU
def Lh (hc:bQ X (.type T) r) (hg:Gl X x) (hm:X.mg x=none) (hv:bootBuiltins x=some (.type T)) (ha:PA X (e::es) t) (hn:x ≠ "__name__" := by decide) (eU:(x==("__debug__" : Str))=false:=by decide)
  (he:starEach (e::es) X.env=(false,eval e X.env)::starEach es X.env:=by rfl) (bU:(backTo pos (starEach es X.env)).any (·.1)=false:=by rfl):PE X (.Call (.Name x p) (e::es) [] pos) (CM r t):=by
 intro pins s U H Q I h
 refine wpAny_Call_Name_kw (kM I hg hm hv ?_ hn eU)
 exact PyProof.Rows.callWith_type1 (aP (ha pos pins s U H _ I h) λus s1 ⟨vs,H1,I1,r1,q1⟩=>hc pins s1 U H1 vs us Q I1 r1 q1) he bU
end
end L2
namespace HT
open PySem PyProof.Rows
section
open PySem.SeqAt
open PySem.AutoSeq1 (wpAny_loadPart')
open PySem.MeetsSeq PySem.MeetsSeq2 PySem.MeetsSeq3
end
section
variable {prog:Program}{w:World}{A:Around}{E:Aa}{s:Shared}
def cat_tup {t b:Addr}{vs ws:Af}{Q:Aa}(ht:IsTup s.heap t vs.toArray) (hb:IsTup s.heap b ws.toArray) (hv:vs≠[])
  (h1:ws=[]->Q (.ref t) s) (h2:ws≠[]->Q (.ref s.heap.objs.size) { s with heap:=s.heap.push { cls:=.type "tuple", data:=.seq (vs++ws).toArray } })
  (hsz:vs.length+ws.length<=sizeLine):wpAny (model prog w) A (binaryOp .Add (.ref t) (.ref b)) Q E s:=by
 obtain ⟨⟨cls,dd,data,sl⟩,ho,hc,n,hd⟩:=id ht
 obtain ⟨⟨uF,lV,data2,lW⟩,ho2,gv,n2,hd2⟩:=id hb
 simp only at hc hd gv hd2
 subst hc hd gv hd2
 have e:vs.toArray++ws.toArray=(vs++ws).toArray:=by simp
 by_cases hw:ws=[]
 ·exact concat_meets ⟨_,ho,rfl⟩ ⟨_,ho2,rfl⟩ noFill_tuple_add seq_tuple_add PySem.F.slot_tuple_add PySem.F.entry_tuple_add (PySem.F.args_tuple_add_2 _ _)
   (tuple_addW1 t b vs.toArray ws.toArray n n2 dd lV sl lW (by simpa using hv) (by simp [hw])) ⟨ho,ho2,h1 hw⟩
 ·refine concat_meets ⟨_,ho,rfl⟩ ⟨_,ho2,rfl⟩ noFill_tuple_add seq_tuple_add PySem.F.slot_tuple_add PySem.F.entry_tuple_add (PySem.F.args_tuple_add_2 _ _)
   (tuple_addW2 t b vs.toArray ws.toArray n n2 dd lV sl lW (by simpa using hv) (by simpa using hw) (by rw [yQ,yQ];exact hsz)) ⟨ho,ho2,?_⟩
  rw [e]
  exact h2 hw
def sIx (n d:Nat):Option Int->Nat
 | none=>d
 | some v=>if v<0 then (v+(n:Int)).toNat else min v.toNat n
def sIx_none (n d:Nat):sIx n d none=d:=rfl
theorem sIx_nat (n d k:Nat):sIx n d (some (k:Int))=min k n:=by
 show (if (k:Int)<0 then ((k:Int)+(n:Int)).toNat else min (k:Int).toNat n)=min k n
 rw [zP (by omega),Int.toNat_natCast]
theorem Lj (n d:Nat) (hd:d<=n) (o:Option Int):sIx n d o<=n:=by
 cases o with
 | none=>exact hd
 | some v =>
  show (if v<0 then (v+(n:Int)).toNat else min v.toNat n)<=n
  by_cases hv:v<0
  ·rw [zF hv];omega
  ·rw [zP hv];exact Nat.min_le_right _ _
theorem CN (v:Int) (n d:Nat):(if v<0 then max (v+(n:Int)) 0 else min v (n:Int))=((sIx n d (some v):Nat):Int):=by
 show (if v<0 then max (v+(n:Int)) 0 else min v (n:Int))=(((if v<0 then (v+(n:Int)).toNat else min v.toNat n):Nat):Int)
 by_cases hv:v<0
 ·simp only [zF hv];omega
 ·simp only [zP hv];omega
theorem Lk (lo hi:Option Int) (n:Nat):Builtin.Slice.sliceAdjust lo hi 1 (n:Int)=(((sIx n 0 lo:Nat):Int),((sIx n n hi:Nat):Int)):=by
 have h1:¬((1:Int)<0):=by omega
 unfold Builtin.Slice.sliceAdjust
 simp only [h1,if_false]
 refine Prod.ext ?_ ?_
 ·cases lo with
  | none=>rfl
  | some v=>exact CN v n 0
 ·cases hi with
  | none=>rfl
  | some v=>exact CN v n n
theorem Ll (i j:Nat):Builtin.Slice.slicePlaces (i:Int) (j:Int) 1=j-i:=by
 unfold Builtin.Slice.slicePlaces
 have h1:(1:Int)>0:=by omega
 simp only [h1,ia,Int.ediv_one]
 split<;>omega
def CO {v:Value}{o:Option Int}{Q:Option Int->Shared->Prop}(p:IsPart v o) (h:Q o s):wpAny (model prog w) A (Builtin.Slice.slicePartIndex v) Q E s:=by
 cases p with
 | none=>exact slicePart_none h
 | int i t=>exact slicePart_int h
def CP {sl:Addr}{vl vu:Value}{lo hi:Option Int}{n:Nat}{Q:Int×Int×Nat->Shared->Prop}(hs:s.heap.IsSliceOf sl vl vu .none) (pl:IsPart vl lo) (pu:IsPart vu hi)
  (h:Q (((sIx n 0 lo:Nat):Int),1,sIx n n hi-sIx n 0 lo) s):wpAny (model prog w) A (Builtin.Slice.sliceApplied (.ref sl) (pure (n:Int))) Q E s:=by
 obtain ⟨os,lX,rS,pK⟩:=id hs
 unfold Builtin.Slice.sliceApplied Builtin.Slice.sliceFields
 refine zx (zx (jk lX pK (x:=vl) rfl (zx (jk lX pK (x:=vu) rfl (zx (jk lX pK (x:=.none) rfl (zZ ?_)))))))
 refine zx (slicePart_none ?_)
 show wpAny _ _ (if ((1:Int)==0)=true then _ else _) _ _ s
 rw [zP (by decide)]
 refine zx (CO pl (zx (CO pu (zx (zZ ?_)))))
 show wpAny _ _ (match Builtin.Slice.sliceAdjust lo hi 1 (n:Int) with|(lo,hi)=>pure (lo,(1:Int),Builtin.Slice.slicePlaces lo hi 1)) _ _ s
 rw [Lk lo hi n]
 show wpAny _ _ (pure (((sIx n 0 lo:Nat):Int),(1:Int),Builtin.Slice.slicePlaces ((sIx n 0 lo:Nat):Int) ((sIx n n hi:Nat):Int) 1)) _ _ s
 rw [Ll]
 exact zZ h
theorem Lm (xs:Array Value) (i k:Nat):((List.range k).filterMap λ(m:Nat)=>xs[((i:Int)+(m:Int)*1).toNat]?).toArray=((xs.toList.drop i).take k).toArray:=by
 have e:(λ(m:Nat)=>xs[((i:Int)+(m:Int)*1).toNat]?)=λm=>xs[i+m]?:=by
  funext m
  have:((i:Int)+(m:Int)*1).toNat=i+m:=by omega
  rw [this]
 rw [e]
 have:=pick_run xs i k
 rw [List.filterMap_map] at this
 have e2:((λx=>xs[x]?)∘λx=>i+x)=λm=>xs[i+m]?:=rfl
 rw [e2] at this
 rw [this]
theorem getItem_tuple_cut {t sl:Addr}{items:Array Value}{vl vu:Value}{lo hi:Option Int}{Q:Aa}(ht:IsTup s.heap t items) (hs:s.heap.IsSliceOf sl vl vu .none) (pl:IsPart vl lo) (pu:IsPart vu hi)
  (hw:¬(sIx items.size 0 lo=0/\sIx items.size items.size hi=items.size))
  (h:Q (.ref s.heap.objs.size) { s with heap:=s.heap.push { cls:=.type "tuple", data:=.seq ((items.toList.drop (sIx items.size 0 lo)).take (sIx items.size items.size hi-sIx items.size 0 lo)).toArray } })
  (hsz:items.size<=sizeLine):wpAny (model prog w) A (getItem (.ref t) (.ref sl)) Q E s:=by
 have iW:sizeOk (.seq ((items.toList.drop (sIx items.size 0 lo)).take (sIx items.size items.size hi-sIx items.size 0 lo)).toArray):=by
  show ((items.toList.drop (sIx items.size 0 lo)).take (sIx items.size items.size hi-sIx items.size 0 lo)).toArray.size<=sizeLine
  rw [yQ,List.length_take,List.length_drop,Array.length_toList]
  omega
 have hj:sIx items.size items.size hi<=items.size:=Lj _ _ (ym _) hi
 obtain ⟨os,lX,rS,pK⟩:=id hs
 have vn:s.TypeIs (.ref sl) "slice" := ⟨os,lX,rS⟩
 unfold getItem
 try with_reducible refine wA ?_
 first|refine zx (zZ ?_)|skip
 refine zx (wpAny_sequenceKey ht.typeIs (by decide) ?_)
 refine zx (wpAny_callSpecial?_slot (name:=Str.ofString "__getitem__") ht.typeIs PyProof.Rows.slot_tuple_getitem
  (j9 PyProof.Rows.slot_tuple_getitem ht.typeIs entry_tuple_getitem ?_ (args_tuple_getitem _ _)))
 show wpAny _ _ (Builtin.Tuple.tupleItemsOf (.ref t) >>= _) _ _ s
 refine zx (tupleItemsOf_ ht ?_)
 refine zx (wpAny_typeOf vn ?_)
 rw [zF (by decide)]
 refine zx (CP hs pl pu ?_)
 have Ln:¬((((sIx items.size 0 lo:Nat):Int)==0&&(1:Int)==1&&(sIx items.size items.size hi-sIx items.size 0 lo)==items.size)=true):=by
  intro q
  rw [iT,iT] at q
  have q1:((sIx items.size 0 lo:Nat):Int)=0:=eq_of_beq q.1.1
  have q2:sIx items.size items.size hi-sIx items.size 0 lo=items.size:=eq_of_beq q.2
  exact hw ⟨by omega,by omega⟩
 show wpAny _ _ (if (((sIx items.size 0 lo:Nat):Int)==0&&(1:Int)==1&&(sIx items.size items.size hi-sIx items.size 0 lo)==items.size)=true then _ else _) _ _ s
 rw [zP Ln,Lm]
 first
  | exact zx (m:=Builtin.Tuple.tupleExact _) (gf (zZ ⟨_,rfl,zZ h⟩) iW)
  | exact zx (m:=Builtin.Tuple.tupleExact _) (gf (zx (zZ (zZ ⟨_,rfl,zZ h⟩))) iW)
  | exact zx (zx (m:=Builtin.Tuple.tupleExact _) (gf (zZ (zZ ⟨_,rfl,zZ h⟩)) iW))
  | exact zx (zx (m:=Builtin.Tuple.tupleExact _) (gf (zZ ⟨_,rfl,zZ h⟩) iW))
end
end HT
namespace L2
open PySem PySem.Spec PyProof.Rows
abbrev TO:=St->Hp->(Option Int->Hp->Prop)->Prop
def PO (X:Cx) (e:Option Expr) (t:TO):Prop :=
 ∀(pins:Ac) (s:Shared) (U:St) (H:Hp) (Q:Option Int->Hp->Prop),Inv X pins U H s->t U H Q ->
  wpAny (model X.prog X.w) X.A (evalPart e X.env) (λu s'=>∃o H',Inv X pins U H' s'/\IsPart u o/\Q o H') X.xe s
def Lo:TO:=λ_ H Q=>Q none H
def Lp (t:TE):TO:=λU H Q=>t U H λx H1=>∃i,x=.int i/\Q (some i) H1
section
variable {X:Cx}{e:Expr}{te:TE}{lo hi:Option Expr}{tl th:TO}{pos p2:Pos}
def Lq:PO X none Lo:=by
 intro pins s U H Q I h
 rw [evalPart_none]
 exact zZ ⟨none,H,I,.none,h⟩
def Lr (h:PE X e te):PO X (some e) (Lp te):=by
 intro pins s U H Q I hw
 rw [evalPart_some]
 refine aP (h pins s U H _ I hw) λu s1 ⟨x,H1,I1,r1,q1⟩=>?_
 obtain ⟨i,rfl,q⟩:=q1
 obtain ⟨t,rfl⟩:=r1
 exact ⟨some i,H1,I1,.int i t,q⟩
def iX (X:Cx) (r:V->Option Int->Option Int->Hp->VK->Prop):Prop :=
 ∀(pins:Ac) (s:Shared) (U:St) (H:Hp) (x:V) (v vl vu:Value) (lo hi:Option Int) (sl:Addr) (Q:VK),Inv X pins U H s->RelV x v->s.heap.IsSliceOf sl vl vu .none->IsPart vl lo->IsPart vu hi->r x lo hi H Q ->
  ∃T id,typeLookup (.type T) "__getitem__" = pure (some (.builtin id))/\s.TypeIs v T/\wpAny (model X.prog X.w) X.A (getItem v (.ref sl)) (EP X pins U Q) X.xe s
def iX.or {r r':V->Option Int->Option Int->Hp->VK->Prop}(h:iX X r) (h':iX X r'):iX X (λx lo hi H Q=>r x lo hi H Q\/r' x lo hi H Q):=by
 intro pins s U H x v vl vu lo hi sl Q I rx hs pl pu q
 rcases q with q|q
 ·exact h pins s U H x v vl vu lo hi sl Q I rx hs pl pu q
 ·exact h' pins s U H x v vl vu lo hi sl Q I rx hs pl pu q
def Ls (r:V->Option Int->Option Int->Hp->VK->Prop) (te:TE) (tl th:TO):TE:=λU H Q=>te U H λx H1=>tl U H1 λl H2=>th U H2 λu H3=>r x l u H3 Q
def Lu {r:V->Option Int->Option Int->Hp->VK->Prop}(hr:iX X r) (he:PE X e te) (hl:PO X lo tl) (hu:PO X hi th):PE X (.Subscript e (.Slice lo hi none p2) pos) (Ls r te tl th):=by
 intro pins s U H Q I h
 refine Subscript_ (aP (he pins s U H _ I h) λv s1 ⟨x,H1,I1,r1,q1⟩=>?_)
 refine wpAny_Slice (aP (hl pins s1 U H1 _ I1 q1) λvl s2 ⟨l,H2,I2,pl,q2⟩=>aP (hu pins s2 U H2 _ I2 q2) λvu s3 ⟨u,H3,I3,pu,q3⟩=>?_)
 rw [evalPart_none]
 refine zZ ?_
 have I4:Inv X pins U H3 { s3 with heap:=s3.heap.push { cls:=.type "slice", data:=.fields #[vl,vu,.none] } }:=I3.kept (t':=s3.toks) λb ob q=>yh _ q
 obtain ⟨T,id,hT,ht,hg⟩:=hr pins { s3 with heap:=s3.heap.push { cls:=.type "slice", data:=.fields #[vl,vu,.none] } } U H3 x v vl vu l u s3.heap.objs.size Q I4 r1 (Heap.IsSliceOf.new ..) pl pu q3
 show wpAny (model X.prog X.w) X.A (subscriptTail e (.Slice lo hi none p2) v (.ref s3.heap.objs.size)) (EP X pins U Q) X.xe { s3 with heap:=s3.heap.push { cls:=.type "slice", data:=.fields #[vl,vu,.none] } }
 exact tail_any (ops:=[.ref s3.heap.objs.size,v]) ht hT hg (by with_unfolding_all rfl)
def fR (xs:List V) (lo hi:Option Int):List V:=(xs.drop (HT.sIx xs.length 0 lo)).take (HT.sIx xs.length xs.length hi-HT.sIx xs.length 0 lo)
theorem CQ (xs:List V) (lo hi:Option Int):(fR xs lo hi).length<=xs.length:=by
 unfold fR
 rw [List.length_take,List.length_drop]
 omega
def Lv (K:PySem.W.Frag):V->Option Int->Option Int->Hp->VK->Prop:=λx lo hi H Q=>∃a xs,x=.ref a/\aW K H a xs /\
 ¬(HT.sIx xs.length 0 lo=0/\HT.sIx xs.length xs.length hi=xs.length)/\∀p,H p=none->Q (.ref p) (upd H p (.tup (fR xs lo hi)))
def Lw:iX X (Lv X.K):=by
 intro pins s U H x v vl vu lo hi sl Q I rx hs pl pu h
 obtain ⟨a,xs,rfl,hx,hw,q⟩:=h
 cases rx
 obtain ⟨its,r,ht,hz⟩:=I.tuple hx
 have hlen:its.toArray.size=xs.length:=by rw [yQ];exact r.length.symm
 refine ⟨"tuple", _,PyProof.Rows.slot_tuple_getitem.lookup,ht.typeIs,?_⟩
 refine HT.getItem_tuple_cut ht hs pl pu (by rw [hlen];exact hw) ?_ (by rw [hlen];exact hz)
 rw [hlen]
 refine ⟨.ref s.heap.objs.size,_,I.laid (t':=s.toks) (o:=.tup (fR xs lo hi)) (λb ob q=>yh _ q) (ym _) ?_,rfl,q _ (I.hok.fresh (ym _))⟩
 exact ⟨ja (CQ xs lo hi) hz,_,(r.drop (HT.sIx xs.length 0 lo)).take (HT.sIx xs.length xs.length hi-HT.sIx xs.length 0 lo),IsTup.new _ _⟩
def Lx (K:PySem.W.Frag):R2:=λx y H Q=>∃a b xs ys,x=.ref a/\y=.ref b/\aW K H a xs/\aW K H b ys/\xs≠[]/\xs.length+ys.length<=sizeLine /\
 (ys=[]->Q (.ref a) H)/\(ys≠[]->∀p,H p=none->Q (.ref p) (upd H p (.tup (xs++ys))))
def Vals.nil_iff {xs:List V}{us:Af}(r:Vals xs us):us=[]↔xs=[]:=by
 cases r with
 | nil=>simp
 | cons _ _=>simp
def Ly:bh X (binaryOp .Add) (Lx X.K):=by
 intro pins s U H x y v u Q I rx ry h
 obtain ⟨a,b,xs,ys,rfl,rfl,ha,hb,hx,hz,q1,q2⟩:=h
 cases rx
 cases ry
 obtain ⟨its,r1,p1,_⟩:=I.tuple ha
 obtain ⟨aL,r2,p2,_⟩:=I.tuple hb
 refine HT.cat_tup p1 p2 (λz=>hx (r1.nil_iff.mp z)) (λz=>⟨.ref a,H,I,rfl,q1 (r2.nil_iff.mp z)⟩) (λz=>?_) (by rw [<-r1.length,<-r2.length];exact hz)
 refine ⟨.ref s.heap.objs.size,_,I.laid (t':=s.toks) (o:=.tup (xs++ys)) (λb ob q=>yh _ q) (ym _) ?_,rfl,q2 (λw=>z (r2.nil_iff.mpr w)) _ (I.hok.fresh (ym _))⟩
 exact ⟨by rw [h_];exact hz,_,r1.append r2,IsTup.new _ _⟩
end
def iY (n:Nat) (i:Int):Option Nat:=if 0<=i then (if i<n then some i.toNat else none) else if -(n:Int)<=i then some (i+n).toNat else none
def dh {α:Type}(xs:List α) (i:Int):Option α:=(iY xs.length i).bind λj=>xs[j]?
theorem CS {n:Nat}{i:Int}{j:Nat}(h:iY n i=some j):seqIndex? i n=some j/\j<n /\ -(n:Int)<=i/\i<n:=by
 unfold iY at h
 by_cases h0:0<=i
 ·rw [zF h0] at h
  by_cases h1:i<n
  ·rw [zF h1] at h
   have e:i.toNat=j:=Option.some.inj h
   exact ⟨by rw [seqIndex_of h0 h1,e],by omega,by omega,h1⟩
  ·rw [zP h1] at h;cases h
 ·rw [zP h0] at h
  by_cases h1 : -(n:Int)<=i
  ·rw [zF h1] at h
   have e:(i+n).toNat=j:=Option.some.inj h
   exact ⟨by rw [seqIndex_neg (by omega) h1,e],by omega,h1,by omega⟩
  ·rw [zP h1] at h;cases h
def a4 {α:Type}{xs:List α}{i:Int}{v:α}(h:dh xs i=some v):∃j,seqIndex? i xs.length=some j/\xs[j]?=some v/\j<xs.length /\ -(xs.length:Int)<=i/\i<xs.length:=by
 unfold dh at h
 cases e:iY xs.length i with
 | none=>rw [e] at h;cases h
 | some j =>
  rw [e] at h
  obtain ⟨h1,h2,h3,h4⟩:=CS e
  exact ⟨j,h1,h,h2,h3,h4⟩
def gw (b:Expr):Prop:=∀o i,subscripted b false o i=operate [o,i] (getItem o i)
def fL (X:Cx) (r:R2):Prop :=
 ∀(value slice:Expr) (pins:Ac) (s:Shared) (U:St) (H:Hp) (x y:V) (v u:Value) (Q:VK),Inv X pins U H s->RelV x v->RelV y u->r x y H Q ->
  subscripted slice false v u=operate [v,u] (getItem v u)->wpAny (model X.prog X.w) X.A (subscriptTail value slice v u) (EP X pins U Q) X.xe s
def Lz (X:Cx) (id:String) (r:V->List V->Hp->VK->Prop):Prop :=
 ∀(pins:Ac) (s:Shared) (U:St) (H:Hp) (x:V) (xs:List V) (v:Value) (us:Af) (Q:VK),Inv X pins U H s->RelV x v->Vals xs us->r x xs H Q ->
  wpAny (model X.prog X.w) X.A (call (.builtin id) (v::us)) (EP X pins U Q) X.xe s
section
variable {X:Cx}{a b:Expr}{ta tb:TE}{pos:Pos}
def fL.or {r r':R2}(h:fL X r) (h':fL X r'):fL X (λx y H Q=>r x y H Q\/r' x y H Q):=by
 intro value slice pins s U H x y v u Q I rx ry q hs
 rcases q with q|q
 ·exact h value slice pins s U H x y v u Q I rx ry q hs
 ·exact h' value slice pins s U H x y v u Q I rx ry q hs
def LB {r:R2}(hr:fL X r) (ha:PE X a ta) (hb:PE X b tb) (hs:gw b):PE X (.Subscript a b pos) (pF r ta tb):=by
 intro pins s U H Q I h
 exact Subscript_ (pG ha hb I h λv u s2 x y H2 I2 rx ry q=>hr a b pins s2 U H2 x y v u Q I2 rx ry q (hs _ _))
def CT (K:PySem.W.Frag):R2:=λx y H Q=>∃p xs i v,x=.ref p/\y=.int i/\aQ K H p xs/\dh xs i=some v/\Q v H
def CU (K:PySem.W.Frag):R2:=λx y H Q=>∃p xs i v,x=.ref p/\y=.int i/\aW K H p xs/\dh xs i=some v/\Q v H
def CV:R2:=λx y H Q=>∃z i c,x=.str z/\y=.int i/\z.length<=sizeLine/\dh z.cps.toList i=some c/\Q (.str ⟨#[c]⟩) H
theorem LC:fL X (CT X.K):=by
 intro value slice pins s U H x y v u Q I rx ry h hs
 obtain ⟨p,xs,i,z,rfl,rfl,hq,he,q⟩:=h
 cases rx
 obtain ⟨t,rfl⟩:=ry
 obtain ⟨its,r,pl,hz⟩:=I.list hq
 obtain ⟨j,h1,h2,h3,h4,h5⟩:=a4 he
 obtain ⟨w,ew,dy⟩:=r.get h2
 have hl:=r.length
 have hn:=pH
 have fin:EP X pins U Q w s:=⟨z,H,I,dy,q⟩
 by_cases h0:0<=i
 ·have hj:i.toNat=j:=by
   rw [seqIndex_of h0 h5] at h1
   exact Option.some.inj h1
  exact item_listR pl.isList h0 (by omega) (by rw [hj];simpa using ew) fin hs
 ·have hj:(i+(its.toArray.size:Int)).toNat=j:=by
   rw [seqIndex_neg (by omega) h4] at h1
   rw [yQ,<-hl]
   exact Option.some.inj h1
  exact subscriptTail_builtinR (x:=w) pl.isList.typeIs slot_list_getitem.lookup
   (wpAny_getItem_list_neg (Q:=λr s'=>r=w/\EP X pins U Q r s') pl.isList (by omega) (by rw [yQ]<;>omega) (by omega) (by rw [hj];simpa using ew) ⟨rfl,fin⟩) hs
theorem LD:fL X (CU X.K):=by
 intro value slice pins s U H x y v u Q I rx ry h hs
 obtain ⟨p,xs,i,z,rfl,rfl,hq,he,q⟩:=h
 cases rx
 obtain ⟨t,rfl⟩:=ry
 obtain ⟨its,r,pl,hz⟩:=I.tuple hq
 obtain ⟨j,h1,h2,h3,h4,h5⟩:=a4 he
 obtain ⟨w,ew,dy⟩:=r.get h2
 have hl:=r.length
 have hn:=pH
 have fin:EP X pins U Q w s:=⟨z,H,I,dy,q⟩
 exact subscriptTail_builtinR (x:=w) pl.typeIs slot_tuple_getitem.lookup
  (getItem_tuple (j:=j) (Q:=λr s'=>r=w/\EP X pins U Q r s') pl (by omega) (by omega) (by rw [yQ,<-hl];exact h1) (by simpa using ew) ⟨rfl,fin⟩) hs
theorem fA:fL X CV:=by
 intro value slice pins s U H x y v u Q I rx ry h hs
 obtain ⟨z,i,c,rfl,rfl,hz,he,q⟩:=h
 obtain ⟨t,rfl⟩:=rx
 obtain ⟨t',rfl⟩:=ry
 obtain ⟨j,h1,h2,h3,h4,h5⟩:=a4 he
 have hl:z.cps.toList.length=z.length:=by simp [Str.length]
 rw [hl] at h1 h4 h5
 have hn:=pH
 exact tail_any (typeIs_str s z t) slot_str_getitem.lookup (getItem_str (c:=c) (by
  have e1:decide (i < -(2 ^ 63:Int))=false:=jU (by omega)
  have e2:decide (i>=2 ^ 63)=false:=jU (by omega)
  rw [e1,e2,Bool.or_false]) (by rw [h1];simpa using h2) ⟨.str ⟨#[c]⟩,H,I.tok _,⟨_,rfl⟩,q⟩) hs
def LF (K:PySem.W.Frag):R2:=λx y H Q=>CT K x y H Q\/CU K x y H Q\/CV x y H Q
def LG:fL X (LF X.K):=LC.or (LD.or fA)
def LH (its:Af) (n j:Nat) (u:Value):Obj.mapSeq (·.setIfInBounds j u) { cls:=.type "list", data:=.seq its.toArray n }={ cls:=.type "list", data:=.seq (its.set j u).toArray n }:=by
 simp [Obj.mapSeq]
def Inv.lst {pins:Ac}{U:St}{H:Hp}{s:Shared}{p:Addr}{xs:List V}(I:Inv X pins U H s) (h:H p=some (.lst xs)) :
  ∃(its:Af) (n:Nat),Vals xs its/\s.heap.get? p=some { cls:=.type "list", data:=.seq its.toArray n }/\xs.length<=sizeLine:=by
 obtain ⟨z,its,n,r,e⟩:=I.hok p _ h
 exact ⟨its,n,r,e,z⟩
def Inv.lstUpd {pins:Ac}{U:St}{H:Hp}{s:Shared}{p:Addr}{xs ys:List V}{its its':Af}{n n':Nat}{f:Obj->Obj}(I:Inv X pins U H s) (h:H p=some (.lst xs))
  (ho:s.heap.get? p=some { cls:=.type "list", data:=.seq its.toArray n }) (hf:f { cls:=.type "list", data:=.seq its.toArray n }={ cls:=.type "list", data:=.seq its'.toArray n' }) (r:Vals ys its') (hz:ys.length<=sizeLine) (t:Nat) :
  Inv X pins U (upd H p (.lst ys)) { s with heap:=s.heap.update p f,toks:=t }:=by
 have e:(s.heap.update p f).get? p=some { cls:=.type "list", data:=.seq its'.toArray n' }:=by
  rw [Heap.get?_update_self f ho (by rw [hf]<;>rfl),hf]
 refine I.write (x:=p) (e:=p) (by rw [h];trivial) (.inl rfl) (λb u hb q=>(hV _ _ (yT hb)).trans q) ⟨_,e⟩ ?_
 exact ⟨hz,its',n',r,e⟩
def LI:V->V->V->Hp->(Hp->Prop)->Prop:=λo i v H Q=>∃p xs k j,o=.ref p/\i=.int k/\H p=some (.lst xs)/\iY xs.length k=some j/\Q (upd H p (.lst (xs.set j v)))
theorem LJ:uD X LI:=by
 intro pins s U H o i v ov iv u Q I ro ri rv h
 obtain ⟨p,xs,k,j,rfl,rfl,hp,hj,q⟩:=h
 cases ro
 obtain ⟨t,rfl⟩:=ri
 obtain ⟨its,n,r,ho,hz⟩:=I.lst hp
 obtain ⟨h1,h2,h3,h4⟩:=CS hj
 have hl:=r.length
 have hn:=pH
 have I':Inv X pins U (upd H p (.lst (xs.set j v))) { s with heap:=s.heap.update p (Obj.mapSeq (·.setIfInBounds j u)) } :=
  I.lstUpd hp ho (LH its n j u) (r.set rv j) (by rw [List.length_set];exact hz) s.toks
 by_cases h0:0<=k
 ·have hk:k.toNat=j:=by
   rw [seqIndex_of h0 h4] at h1
   exact Option.some.inj h1
  exact PySem.W.ki_setAt ho h0 (by omega) (by rw [yQ,<-hl];exact h4) (by rw [hk];exact ⟨_,I',q⟩)
 ·have hk:(k+(its.toArray.size:Int)).toNat=j:=by
   rw [seqIndex_neg (by omega) h3] at h1
   rw [yQ,<-hl]
   exact Option.some.inj h1
  exact PySem.W.ki_setBack ho (by omega) (by rw [yQ,<-hl];exact h3) (by omega) (by rw [hk];exact ⟨_,I',q⟩)
theorem LK (lo hi:Option Int) (n:Nat):(sliceBounds lo hi none n).1=((HT.sIx n 0 lo:Nat):Int)/\(sliceBounds lo hi none n).2.1=((HT.sIx n n hi:Nat):Int)/\(sliceBounds lo hi none n).2.2=1:=by
 refine ⟨?_,?_,rfl⟩
 ·cases lo with
  | none=>simp [sliceBounds,HT.sIx]
  | some i =>
   simp only [sliceBounds,HT.sIx,Option.getD_none,show (1:Int)>0 by decide,ia]
   by_cases h:i<0
   ·simp only [h,ia]<;>omega
   ·simp only [h,if_false]<;>omega
 ·cases hi with
  | none=>simp [sliceBounds,HT.sIx]
  | some i =>
   simp only [sliceBounds,HT.sIx,Option.getD_none,show (1:Int)>0 by decide,ia]
   by_cases h:i<0
   ·simp only [h,ia]<;>omega
   ·simp only [h,if_false]<;>omega
def LL (its:Af) (lo hi:Option Int):slicePick its.toArray lo hi none=((its.drop (HT.sIx its.length 0 lo)).take (HT.sIx its.length its.length hi-HT.sIx its.length 0 lo)).toArray:=by
 obtain ⟨h1,h2,h3⟩:=LK lo hi its.toArray.size
 unfold slicePick
 rw [h1,h2,h3]
 simp only [sliceRange_one,pick_run,yQ]<;>rfl
def LM (K:PySem.W.Frag):V->Option Int->Option Int->Hp->VK->Prop:=λx lo hi H Q=>∃a xs,x=.ref a/\aQ K H a xs/\∀p,H p=none->Q (.ref p) (upd H p (.lst (fR xs lo hi)))
theorem LO:iX X (LM X.K):=by
 intro pins s U H x v vl vu lo hi sl Q I rx hs pl pu h
 obtain ⟨a,xs,rfl,hx,q⟩:=h
 cases rx
 obtain ⟨its,r,ht,hz⟩:=I.list hx
 have hlen:=r.length
 refine ⟨"list", _,slot_list_getitem.lookup,ht.isList.typeIs,?_⟩
 refine wpAny_getItem_list_slice ht.isList hs pl pu .none (by simp) ?_ (by rw [yQ]<;>omega)
 rw [LL,<-hlen]
 refine ⟨.ref s.heap.objs.size,_,I.laid (t':=s.toks) (o:=.lst (fR xs lo hi)) (λb ob q=>yh _ q) (ym _) ?_,rfl,q _ (I.hok.fresh (ym _))⟩
 exact ⟨ja (CQ xs lo hi) hz,_,0,(r.drop (HT.sIx xs.length 0 lo)).take (HT.sIx xs.length xs.length hi-HT.sIx xs.length 0 lo),yW _ rfl⟩
def znM:bh X (compareOp .NotIn) (λx y H Q=>∃i j,x=.str i/\y=.str j/\Q (.bl (!(!(Builtin.Str.occurrences j i 0 j.length 1).isEmpty))) H):=by
 intro pins s U H x y v u Q I rx ry h
 obtain ⟨i,j,rfl,rfl,q⟩:=h
 obtain ⟨t,rfl⟩:=rx
 obtain ⟨t',rfl⟩:=ry
 exact notIn_str ⟨.bl _,H,I,rfl,q⟩
def bQ.or {f:Value}{r r':List V->Hp->VK->Prop}(h:bQ X f r) (h':bQ X f r'):bQ X f (λxs H Q=>r xs H Q\/r' xs H Q):=by
 intro pins s U H xs us Q I rs q
 rcases q with q|q
 ·exact h pins s U H xs us Q I rs q
 ·exact h' pins s U H xs us Q I rs q
def LP:bQ X (.type "list") (λxs H Q=>∃p ys,xs=[.ref p]/\(aQ X.K H p ys\/aW X.K H p ys)/\∀l,H l=none->Q (.ref l) (upd H l (.lst ys))):=by
 intro pins s U H xs us Q I r h
 obtain ⟨p,ys,rfl,hq,q⟩:=h
 obtain ⟨u,rfl,rx⟩:=iu r
 cases rx
 have fin:∀(its:Af),Vals ys its->ys.length<=sizeLine->∀(h':Heap) (c':Nat),(∀b o',s.heap.get? b=some o'->h'.get? b=some o') ->
   h'.get? s.heap.objs.size=some { cls:=.type "list", dict:=none,data:=.seq its.toArray c',slots:=#[] }->EP X pins U Q (.ref s.heap.objs.size) { s with heap:=h' }:=λits r' hz h' c' kp e =>
  ⟨.ref s.heap.objs.size,_,I.laid (t':=s.toks) kp (ym _) (show aR X.prog X.w _ h' _ (.lst ys) from ⟨hz,its,c',r',e⟩),rfl,q _ (I.hok.fresh (ym _))⟩
 rcases hq with hq|hq
 ·obtain ⟨its,r',pl,hz⟩:=I.list hq
  have hlen:=r'.length
  obtain ⟨o,ho,hc,n,hd⟩:=pl.isList
  exact call_list_seq p (.inl rfl) ho hc hd (λh' c' kp e=>fin its r' hz h' c' kp e) (by simp only [yQ]<;>omega)
 ·obtain ⟨its,r',pl,hz⟩:=I.tuple hq
  have hlen:=r'.length
  obtain ⟨o,ho,hc,n,hd⟩:=pl
  exact call_list_seq p (.inr rfl) ho hc hd (λh' c' kp e=>fin its r' hz h' c' kp e) (by simp only [yQ]<;>omega)
def LQ:bQ X (.type "tuple") (λxs H Q=>∃p ys,xs=[.ref p]/\((aQ X.K H p ys/\∀l,H l=none->Q (.ref l) (upd H l (.tup ys)))\/(aW X.K H p ys/\Q (.ref p) H))):=by
 intro pins s U H xs us Q I r h
 obtain ⟨p,ys,rfl,h⟩:=h
 obtain ⟨u,rfl,rx⟩:=iu r
 cases rx
 rcases h with ⟨hq,q⟩|⟨hq,q⟩
 ·obtain ⟨its,r',pl,hz⟩:=I.list hq
  have hlen:=r'.length
  refine call_tuple_list pl.isList (λh' kp=>?_) (by simp only [yQ]<;>omega)
  have I1:Inv X pins U H { s with heap:=h' }:=I.kept (t':=s.toks) kp
  have I2:Inv X pins U (upd H h'.objs.size (.tup ys)) { s with heap:=h'.push { cls:=.type "tuple", data:=.seq its.toArray } } :=
   I1.laid (t':=s.toks) (λb o e=>yh _ e) (ym _) (show aR X.prog X.w _ _ _ (.tup ys) from ⟨hz,its,r',IsTup.new _ _⟩)
  exact ⟨.ref h'.objs.size,_,I2,rfl,q _ (I1.hok.fresh (ym _))⟩
 ·obtain ⟨its,r',pl,hz⟩:=I.tuple hq
  exact call_tuple_same pl ⟨.ref p,H,I,rfl,q⟩
def CW (K:PySem.W.Frag) (T:String) (x:V) (H:Hp):Prop:=match x with
 | .str _=>T = "str"
 | .int _=>T = "int"
 | .ref p=>(T = "list" /\ ∃xs,aQ K H p xs)\/(T = "tuple" /\ ∃o,K.lookup p=some o/\o.cls=.type "tuple" /\ o.dict=none) \/
   (T = "dict" /\ ((∃kvs,H p=some (.dK kvs))\/∃kvs,H p=some (.dT kvs)))\/(T = "set" /\ ∃S n,H p=some (.set S n))
 | _=>False
def LR {pins:Ac}{U:St}{H:Hp}{s:Shared}{T:String}{x:V}{v:Value}(I:Inv X pins U H s) (r:RelV x v) (ty:CW X.K T x H) :
  s.TypeIs v T/\∀a,v=.ref a->∃ob,s.heap.get? a=some ob/\ob.dict=none:=by
 cases x with
 | str z =>
  obtain ⟨t,rfl⟩:=r
  cases (show T = "str" from ty)
  exact ⟨typeIs_str s z t,λ_ e=>nomatch e⟩
 | int i =>
  obtain ⟨t,rfl⟩:=r
  cases (show T = "int" from ty)
  exact ⟨typeIs_int s i t,λ_ e=>nomatch e⟩
 | ref p =>
  cases r
  rcases ty with ⟨rfl,xs,hq⟩|⟨rfl,o,hk,hc,hd⟩|⟨rfl,hk⟩|⟨rfl,S,n,hk⟩
  ·obtain ⟨its,_,pl,_⟩:=I.list hq
   refine ⟨pl.isList.typeIs,λa e=>?_⟩
   cases e
   obtain ⟨o,n,e,c,hd,_⟩:=pl
   exact ⟨o,e,hd⟩
  ·refine ⟨⟨o,I.kIn p o hk,hc⟩,λa e=>?_⟩
   cases e
   exact ⟨o,I.kIn _ o hk,hd⟩
  ·have z:∃o,s.heap.get? p=some o/\o.ExactDict:=by
    rcases hk with ⟨kvs,hk⟩|⟨kvs,hk⟩
    ·obtain ⟨_,_,_,_,o,_,_,e,ex,_⟩:=I.hok p _ hk
     exact ⟨o,e,ex⟩
    ·obtain ⟨_,_,_,_,o,_,_,e,ex,_⟩:=I.hok p _ hk
     exact ⟨o,e,ex⟩
   obtain ⟨o,e,ex⟩:=z
   refine ⟨⟨o,e,ex.1⟩,λa e2=>?_⟩
   cases e2
   exact ⟨o,e,ex.2.1⟩
  ·obtain ⟨o,_,_,_,e,ex,_⟩:=I.hok p _ hk
   refine ⟨⟨o,e,ex.1⟩,λa e2=>?_⟩
   cases e2
   exact ⟨o,e,ex.2.1⟩
 | _=>exact ty.elim
def LU (K:PySem.W.Frag) (T:String) (r:V->List V->Hp->VK->Prop) (to:TE) (t:TA):TE:=λU H Q=>to U H λx H1=>CW K T x H1/\t U H1 λxs H2=>r x xs H2 Q
variable {o e:Expr}{es:List Expr}{to:TE}{t:TA}{name:Str}{apos a7:Pos}{T id:String}{r:V->List V->Hp->VK->Prop}
def vo (pa:PlainAttrs T) (slot:Slot T name id) (nY:typeOf (.builtin id)=pure (.type "method_descriptor")) (hm:Lz X id r) (ho:PE X o to) (ha:PA X (e::es) t)
  (eX:attributeBase o name X.env (eval o X.env)=eval o X.env:=by rfl)
  (gy:((backTo a7 (starEach (e::es) X.env)).all (λx=>!x.1)&&(backToKw a7 (keywordEach [] X.env)).all (λx=>x.1.isSome)
   && decide ((e::es).length+([]:List Keyword).length+(if ([]:List Keyword).isEmpty then 0 else 1)<30))=true:=by rfl)
  (eY:(apos.endLine==a7.line)=true:=by rfl) (hs:starEach (e::es) X.env=(false,eval e X.env)::starEach es X.env:=by rfl) (rT:(backTo a7 (starEach es X.env)).any (·.1)=false:=by rfl) :
  PE X (.Call (.Attribute o name apos) (e::es) [] a7) (LU X.K T r to t):=by
 intro pins s U H Q I h
 refine wpAny_Call_method_late eX gy eY rfl (aP (ho pins s U H _ I h) λv s1 ⟨x,H1,I1,r1,ty,q1⟩=>?_)
 obtain ⟨h1,h2⟩:=LR I1 r1 ty
 refine ⟨T,id,pa,slot,nY,h1,h2,?_⟩
 have hA:=ha a7 pins s1 U H1 _ I1 q1
 rw [hs] at hA ⊢
 refine Calls.callWith_builtin (by show (false||(backTo a7 (starEach es X.env)).any (·.1))=false;rw [rT]<;>rfl) (Calls.evalArgs_plain ?_)
 exact aP hA λus s2 ⟨vs,H2,I2,r2,q2⟩=>hm pins s2 U H2 x vs v us Q I2 r1 r2 q2
end
def rV (X:Cx) (id:String) (r:V->List V->Hp->VK->Prop):Prop :=
 ∀(pins:Ac) (s:Shared) (U:St) (H:Hp) (x:V) (xs:List V) (v:Value) (us:Af) (Q:VK),Inv X pins U H s->RelV x v->Vals xs us->r x xs H Q ->
  wpAny (model X.prog X.w) X.A (call (.builtin id) (v::us)) (EP X pins U Q) X.xe s
def Vals.one:∀{x:V}{us:Af},Vals [x] us->∃u,us=[u]/\RelV x u
 | _,_,.cons r .nil=>⟨_,rfl,r⟩
theorem Vals.eraseIdx:∀{xs:List V}{us:Af}(i:Nat),Vals xs us->Vals (xs.eraseIdx i) (us.eraseIdx i)
 | _,_,_,.nil=>.nil
 | _,_,0,.cons _ t=>t
 | _,_,i+1,.cons r t=>.cons r (Vals.eraseIdx i t)
def Vals.reverse {xs:List V}{us:Af}(h:Vals xs us):Vals xs.reverse us.reverse:=by
 induction h with
 | nil=>exact .nil
 | cons r t ih=>rw [List.reverse_cons,List.reverse_cons];exact Vals.append ih (.cons r .nil)
theorem CY {α:Type}:∀(l:List α) (i:Nat),(l.eraseIdx i).length<=l.length
 | [],_=>ym _
 | _::_,0=>Nat.le_succ _
 | _::r,i+1=>Nat.succ_le_succ (CY r i)
section
variable {X:Cx}{pins:Ac}{U:St}{H:Hp}{s:Shared}{l b:Addr}{xs ys zs:List V}
def Inv.lset {its its':Af}{n:Nat}{f:Array Value->Array Value}{t':Nat}(I:Inv X pins U H s) (hH:H l=some (.lst xs))
  (e:s.heap.get? l=some { cls:=.type "list", data:=.seq its.toArray n }) (hf:f its.toArray=its'.toArray) (hv:Vals ys its') (hz:ys.length<=sizeLine) :
  Inv X pins U (upd H l (.lst ys)) { s with heap:=s.heap.update l (Obj.mapSeq f),toks:=t' }:=by
 have q:=PySem.IsL.update e f
 rw [hf] at q
 refine I.write (x:=l) (e:=l) (by rw [hH];exact trivial) (.inl rfl) (λb' u hb hu=>(hV s.heap (Obj.mapSeq f) (yT hb)).trans hu) ⟨_,q⟩ ?_
 exact ⟨hz,its',_,hv,q⟩
def Inv.lnew {its:Af}{t':Nat}(I:Inv X pins U H s) (hv:Vals ys its) (hz:ys.length<=sizeLine) :
  Inv X pins U (upd H s.heap.objs.size (.lst ys)) { s with heap:=s.heap.push { cls:=.type "list", data:=.seq its.toArray },toks:=t' } :=
 I.laid (λ_ _ q=>yh _ q) (ym _) ⟨hz,its,0,hv,yW _ rfl⟩
def Inv.fresh (I:Inv X pins U H s):H s.heap.objs.size=none:=I.hok.fresh (ym _)
def Inv.lstM (I:Inv X pins U H s) (hH:H l=some (.lst xs)):xs.length<=sizeLine/\∃(its:Af) (n:Nat),Vals xs its/\xs.length=its.length/\s.heap.get? l=some { cls:=.type "list", data:=.seq its.toArray n }:=by
 obtain ⟨z,its,n,r,e⟩:=I.hok l _ hH
 exact ⟨z,its,n,r,r.length,e⟩
theorem iQ {n:Nat}(h:n<=sizeLine):Builtin.List.listTooLong n=false:=by
 unfold Builtin.List.listTooLong
 exact jU (by omega)
end
section
variable {X:Cx}
def LV:V->List V->Hp->VK->Prop:=λx vs H Q=>∃l xs y,x=.ref l/\vs=[y]/\H l=some (.lst xs)/\xs.length<sizeLine/\Q .non (upd H l (.lst (xs++[y])))
theorem znS:rV X "list.append" LV:=by
 intro pins s U H x vs v us Q I rx rv h
 obtain ⟨l,xs,y,rfl,rfl,hH,hz,q⟩:=h
 cases rx
 obtain ⟨u,rfl,ru⟩:=rv.one
 obtain ⟨z,its,n,r,hl,e⟩:=I.lstM hH
 refine call_meets F.slot_list_append ⟨_,e,rfl⟩ F.entry_list_append (F.args_list_append_2 _ _) (PySem.list_append l its.toArray n u (by rw [yQ];omega)) ⟨e,?_⟩
 refine ⟨.non,_,I.lset (its':=its++[u]) hH e (by simp) (r.append (.cons ru .nil)) ?_,rfl,q⟩
 rw [h_,List.length_singleton]
 omega
def CZ:V->List V->Hp->VK->Prop:=λx vs H Q=>∃l b xs zs,x=.ref l/\vs=[.ref b]/\H l=some (.lst xs)/\H b=some (.lst zs)/\xs.length+zs.length<=sizeLine/\Q .non (upd H l (.lst (xs++zs)))
theorem LX:rV X "list.extend" CZ:=by
 intro pins s U H x vs v us Q I rx rv h
 obtain ⟨l,b,xs,zs,rfl,rfl,hH,hB,hz,q⟩:=h
 cases rx
 obtain ⟨u,rfl,ru⟩:=rv.one
 cases ru
 obtain ⟨z,its,n,r,hl,e⟩:=I.lstM hH
 obtain ⟨z2,aL,n2,r2,hl2,e2⟩:=I.lstM hB
 have hsz:its.toArray.size+aL.toArray.size<=sizeLine:=by rw [yQ,yQ];omega
 have gz:¬(!its.toArray.isEmpty&&Builtin.List.listTooLong (its.toArray.size+aL.toArray.size))=true:=by
  rw [iQ hsz,Bool.and_false]
  exact Bool.false_ne_true
 refine call_meets F.slot_list_extend ⟨_,e,rfl⟩ F.entry_list_extend (F.args_list_extend_2 _ _)
  (AutoSeq1.list_extend_list_list_0 l its.toArray n b aL.toArray n2 gz (by rw [yQ];omega) (by omega)) ⟨e,e2,?_⟩
 refine ⟨.non,_,I.lset (its':=its++aL) hH e (by simp) (r.append r2) ?_,rfl,q⟩
 rw [h_]
 omega
def LY:V->List V->Hp->VK->Prop:=λx vs H Q=>∃l xs i k y,x=.ref l/\vs=[.int i]/\H l=some (.lst xs) /\ -(2 ^ 63)<=i/\i<2 ^ 63/\seqIndex? i xs.length=some k/\xs[k]?=some y/\Q y (upd H l (.lst (xs.eraseIdx k)))
theorem LZ:rV X "list.pop" LY:=by
 intro pins s U H x vs v us Q I rx rv h
 obtain ⟨l,xs,i,k,y,rfl,rfl,hH,h1,h2,hk,hy,q⟩:=h
 cases rx
 obtain ⟨u,rfl,ru⟩:=rv.one
 obtain ⟨t,rfl⟩:=ru
 obtain ⟨z,its,n,r,hl,e⟩:=I.lstM hH
 obtain ⟨w,hw,dy⟩:=r.get hy
 refine call_meets F.slot_list_pop ⟨_,e,rfl⟩ F.entry_list_pop (F.args_list_pop_2 _ _)
  (MeetsSeq.list_pop_at l its.toArray n i t k w (fitsIndex_both h1 h2) (by rw [yQ,<-hl];exact hk) (by rw [<-Array.getElem?_toList];exact hw) (by rw [yQ];omega)) ⟨e,?_⟩
 refine ⟨y,_,I.lset (its':=its.eraseIdx k) hH e ?_ (r.eraseIdx k) ?_,dy,q⟩
 ·show its.toArray.eraseIdxIfInBounds k=(its.eraseIdx k).toArray
  rw [List.eraseIdxIfInBounds_toArray]
 ·have:=CY xs k
  omega
def L3:R2:=λx y H Q=>∃l b xs zs,x=.ref l/\y=.ref b/\H l=some (.lst xs)/\H b=some (.lst zs)/\xs.length+zs.length<=sizeLine/\∀p,H p=none->Q (.ref p) (upd H p (.lst (xs++zs)))
def L4:bh X (binaryOp .Add) L3:=by
 intro pins s U H x y v u Q I rx ry h
 obtain ⟨l,b,xs,zs,rfl,rfl,hH,hB,hz,q⟩:=h
 cases rx
 cases ry
 obtain ⟨z,its,n,r,hl,e⟩:=I.lstM hH
 obtain ⟨z2,aL,n2,r2,hl2,e2⟩:=I.lstM hB
 refine PySem.P.add_list e e2 ?_ (by rw [yQ,yQ];omega)
 have ea:its.toArray++aL.toArray=(its++aL).toArray:=by simp
 rw [ea]
 exact ⟨.ref _,_,I.lnew (t':=s.toks) (r.append r2) (by rw [h_];omega),rfl,q _ I.fresh⟩
end
section
variable {prog:Program}{w:World}{A:Around}{E:Aa}{s:Shared}
end
section
variable {X:Cx}
end
end L2
namespace Att
open PySem PySem.W PySem.Calls PyProof.Rows
def L5 {P:Params}{h:Heap}:∀(ns:List Int) (vs:Af),WellAll P h vs (ns.map WData.int)->IntsAre vs ns:=by
 intro ns
 induction ns with
 | nil =>
  intro vs w
  rw [List.map_nil] at w
  cases w
  exact .nil
 | cons n ns ih =>
  intro vs w
  rw [yu] at w
  cases w with
  | cons a b =>
   cases a
   exact .cons _ _ (ih _ b)
theorem L7 {l:OpenLaw}{n:Nat}(hn:l.most=some n) {P:Params}{h:Heap}{args:List WData}{vals:Af}
  (nH:l.row.toRowW.claim.pre args=true) (hwl:WellAll P h vals args) :
  ∃a vs ns,vals=[Value.ref a]/\args=[WData.list (ns.map WData.int)]/\h.get? a=some { cls:=.type "list", data:=.seq vs.toArray }/\IntsAre vs ns/\ns.length<=n:=by
 have L8:WShape.hasAll [] args [.list .int]=true:=(pre_splitW nH).1
 have hc:l.pre.holds [] { args:=args }=true:=(pre_splitW nH).2
 obtain ⟨d,r,rfl,h1,h2⟩:=hasAllW_cons L8
 obtain rfl:=hasAllW_nil h2
 obtain ⟨xs,rfl,h3⟩:=hasW_list h1
 obtain ⟨ns,rfl⟩:=items_int h3
 have hlen:ns.length<=n:=by
  unfold OpenLaw.pre at hc
  have h4:(WTm.not (.lt (.lit (.int (n:Int))) (.len (.arg 0)))).holds [] { args:=[.list (ns.map .int)] }=true:=by
   have h4:=(holds_andW hc).1
   rw [hn] at h4
   exact h4
  have h5:=condW_of h4 (w_not (w_lt w_lit (w_len_list (w_arg rfl))))
  rw [yI] at h5
  refine Nat.le_of_not_lt λq=>?_
  have q':(n:Int)<((ns.length:Nat):Int):=by omega
  first
   | (rw [wc q'] at h5;exact absurd h5 (by decide))
   | (simp at h5;omega)
 cases hwl with
 | cons w1 w2 =>
  cases w2
  cases w1 with
  | list ho fB=>exact ⟨_,_,ns,rfl,rfl,ho,L5 ns _ fB,hlen⟩
def L9 (l:OpenLaw) (args:List WData):l.row.toRowW.claim.post args (.bool true) args=true :=
 postW_of (r:=l.row.toRowW) (X:=(true==true))
  (show WShape.has [] (.bool true) .bool=true by first|rfl|decide|simp [WShape.has,WShape.arms,WShape.armsAll])
  (show (WTm.eq .res (.lit (.bool true))).value [] { args:=args,res:=some (.bool true),after:=args }=some (.bool (true==true)) from w_eq_bool (w_res rfl) w_lit) rfl
def attach_call {l:OpenLaw}{n:Nat}{q:Program}{loose:Ad}{XP:(Ab)->Heap->Prop}{YP:World->Heap->Prop}{d:DefRec}
  (hn:l.most=some n) (pL:d.params.defaults=[])
  (call:∀(w:World) (s₀ ao:Shared) (mg mb:Ab) (fa:Addr) (o:Obj) (pm cd doc:Value) (a:Addr) (vs:Af) (ns:List Int),
   Ground q loose [] XP w s₀ mg mb ao.heap->YP w ao.heap ->
   ao.heap.get? fa=some o->o.data=.func (docDef d.name d.params d.body d.scope pm cd doc)->ao.heap.CodeRec cd d.name->mg d.name=some (.ref fa) ->
   ao.heap.get? a=some { cls:=.type "list", data:=.seq vs.toArray }->IntsAre vs ns->ns.length<=n->ao.gens=#[] ->
   codeAny (model l.prog w) callerA (.call (.ref fa) ⟨[.ref a],[]⟩) (λr s'=>r=.ok (.ret (.bool true))/\OldK ao.heap s'.heap/\s'.os=ao.os/\AllBare s'.gens) ao) :
  WalkO q loose XP YP l.row.toRowW d [] (λf vs=>PySem.call f vs):=by
 intro w s₀ ao mg mb G Y fa o pm cd doc dV kV ho hd fH hD hmg hg args vals as nH hlay hrd hwl hlo
 obtain rfl:dV=.none:=Dflts.none hD pL
 obtain rfl:kV=.none:=Dflts.noKw hD
 obtain ⟨a,vs,ns,rfl,rfl,pM,hints,hlen⟩:=L7 hn nH hwl
 refine enter_call (codeAny_mono (call w s₀ ao mg mb fa o pm cd doc a vs ns G Y ho (fd_plain hd) fH hmg pM hints hlen hg) λr s' hq=>?_)
 obtain ⟨rfl,h2,h3,h4⟩:=hq
 exact ⟨.inl ⟨.bool true,.bool true,[],rfl,λ_=>rfl,.bool true,L9 l _,λ_=>⟨List.Pairwise.nil,λ_ hm=>(nomatch hm)⟩⟩,h2,h3,h4⟩
section
variable {prog:Program}{w:World}{A:Around}{E:Aa}{s:Shared}{K:Frag}
end
end Att
namespace L2
open PySem PySem.Spec PyProof.Rows
theorem C0:∀{vs:Af}{ns:List Int},IntsAre vs ns->Vals (ns.map V.int) vs
 | _,_,.nil=>.nil
 | _,_,.cons n t h=>.cons ⟨t,rfl⟩ (C0 h)
def Only (H:Hp):Prop:=∀b,H b=none\/∃o xs,H b=some (.frz o (.lst xs))
def L_ {P:Program}{w:World}{K:PySem.W.Frag}{mg mb:Ab}{CX:fy}{k:Nat}{fa a:Addr}{fd:FuncData}{x:Str}{sp:Sp}{ao:Shared}{vs:Af}{ns:List Int}
  (KX:K.In ao.heap) (C3:ao.heap.Ns mainGlobals mg) (hb:ao.heap.Ns builtinsNs mb) (pN:∀x:Str,x ≠ "__name__" -> mb x=bootBuiltins x) (uG:ao.heap.NoLimit) (hg:ao.gens=#[])
  (ha:ao.heap.get? a=some { cls:=.type "list", data:=.seq vs.toArray }) (hi:IntsAre vs ns) (hl:ns.length<=sizeLine) (hr:bt k callerA)
  (F:∀base:Heap,K.In base->base.Ns mainGlobals mg->bG P w K mg base CX k fa fd [x] sp) (vp:∀(s:Shared) (u:Value),BindsTo s fd ⟨[u],[]⟩ [(x,u)])
  (kO:∀H:Hp,Only H->aQ K H a (ns.map V.int)->sp [.ref a] H (λv _=>v=.bl true) λ_ _ _=>False)
  (vq:∀H e s',CX [] H ao (λ_ _ _=>False) e s'->False) :
  codeAny (model P w) callerA (.call (.ref fa) ⟨[.ref a],[]⟩) (λr s'=>r=.ok (.ret (.bool true))/\OldK ao.heap s'.heap/\s'.os=ao.os/\AllBare s'.gens) ao:=by
 have rv:=C0 hi
 have C4:=hi.length
 have core:∀H:Hp,Only H->aQ K H a (ns.map V.int)->cf P w H ao.heap->(∀b,H b≠none->b=a)->(H a≠none->K.lookup a=none) ->
   codeAny (model P w) callerA (.call (.ref fa) ⟨[.ref a],[]⟩) (λr s'=>r=.ok (.ret (.bool true))/\OldK ao.heap s'.heap/\s'.os=ao.os/\AllBare s'.gens) ao:=by
  intro H hO hS hok hA hK
  have kQ:∀{b:Addr} {o:Obj},ao.heap.get? b=some o->H b=none->(fh ao.heap H).get? b=some o:=λe n=>Jm e n
  have pJ:∀{b:Addr} {o:Obj} {es:Array DictEntry} {ep:Nat},ao.heap.get? b=some o->o.data=.dict es ep->H b=none:=λ{b o es ep} e d=>by
   cases q:H b with
   | none=>rfl
   | some u =>
    have e':b=a:=hA b (by rw [q];simp)
    subst e'
    rw [ha] at e;cases e
    have d':Data.seq vs.toArray _=Data.dict es ep:=d
    cases d'
  have rW:∀{b:Addr} {m:Ab},ao.heap.Ns b m->(fh ao.heap H).Ns b m:=λ{b m} ⟨o,es,ep,e,d,r⟩=>⟨o,es,ep,kQ e (pJ e d),d,r⟩
  have C5:K.In (fh ao.heap H):=λb o e=>kQ (KX b o e) (by
   cases q:H b with
   | none=>rfl
   | some u =>
    have e':b=a:=hA b (by rw [q];simp)
    subst e'
    rw [hK (by rw [q];simp)] at e;cases e)
  have hM:Mod K mg (fh ao.heap H):=⟨C5,rW C3,⟨mb,rW hb,pN⟩,let ⟨mc,h1,h2⟩:=uG;⟨mc,rW h1,h2⟩⟩
  have e0:gq P w K mg (fh ao.heap H) callerA [] ao H:=⟨rfl,hM,λb o e=>Jn e,Nat.le_of_eq (Jl _ _),trivial,λb hb=>absurd (show b∈([]:Ae) from hb) (by simp),hok,.of_eq hg⟩
  refine codeAny_mono ((F _ C5 (rW C3)).run callerA [] ao H ⟨[.ref a],[]⟩ [.ref a] [.ref a] _ _ hr e0 (vp ao (.ref a)) (.cons rfl .nil) (kO H hO hS)) λr s' h=>?_
  cases r with
  | error e=>exact (vq H e s' h).elim
  | ok fl =>
   cases fl with
   | next=>exact h.elim
   | brk=>exact h.elim
   | cont=>exact h.elim
   | ret u =>
    obtain ⟨v,H',os,bare,un,C6,r',q⟩:=h
    have q':v=.bl true:=q
    subst q'
    obtain rfl:u=Value.bool true:=r'
    refine ⟨rfl,OldK.of_keep λb o e=>?_,os,bare⟩
    cases q:H b with
    | none=>exact un.keep b o e q (by intro z;exact absurd (show b∈([]:Ae) from z) (by simp)) (by simp)
    | some u =>
     rcases hO b with z|⟨ob,xs,z⟩
     ·rw [q] at z;cases z
     ·have z2:=un.frzs b ob _ z
      obtain ⟨e1,_⟩:=hok b _ z
      obtain ⟨e2,_⟩:=C6 b _ z2
      rw [e] at e1;cases e1
      exact e2
 cases hk:K.lookup a with
 | some o =>
  have e:=KX a o hk
  rw [ha] at e
  cases e
  refine core (λ_=>none) (λ_=>.inl rfl) (.inr ⟨_,vs.toArray,_,hk,rfl,rfl,rfl,by rw [yQ,C4];exact hl,by simpa using rv⟩) (λb u z=>by have z':(none:Option HO)=some u:=z;cases z') (λb z=>absurd rfl z) λz=>absurd rfl z
 | none =>
  refine core (λb=>if b=a then some (.frz { cls:=.type "list", data:=.seq vs.toArray } (.lst (ns.map V.int))) else none) (λb=>?_) (.inl (.inr ⟨{ cls:=.type "list", data:=.seq vs.toArray },zF rfl⟩)) (λb u z=>?_) (λb z=>?_) λ_=>hk
  ·by_cases hb:b=a
   ·exact .inr ⟨_,_,zF hb⟩
   ·exact .inl (zP hb)
  ·by_cases hb:b=a
   ·have z':=(zF hb).symm.trans z
    cases z'
    subst hb
    exact ⟨ha,by rw [yI];exact hl,vs,_,rv,ha⟩
   ·have z':=(zP hb).symm.trans z
    cases z'
  ·by_cases hb:b=a
   ·exact hb
   ·exact absurd (zP hb) z
abbrev KOf {K:PySem.W.Frag}{h:Heap}(_:K.In h):PySem.W.Frag:=K
def zn2 {l:PySem.W.OpenLaw}{n k:Nat}{q:Program}{loose:Ad}{XP:(Ab)->Heap->Prop}{YP:World->Heap->Prop}{d:DefRec}{K:Params->PySem.W.Frag}{CX:World->fy}{sp:World->Sp}{x:Str}
  (hn:l.most=some n) (fj:n<=sizeLine) (pL:d.params.defaults=[]) (hr:bt k callerA)
  (hY:∀(w:World) (h:Heap),YP w h->(K w.params).In h)
  (F:∀(w:World) (mg:Ab) (fa:Addr) (h:Heap),(K w.params).In h->h.Ns mainGlobals mg->mg d.name=some (.ref fa) ->
   ∃fd:FuncData,(∀(s:Shared) (u:Value),BindsTo s fd ⟨[u],[]⟩ [(x,u)]) /\
    ∀base:Heap,(K w.params).In base->base.Ns mainGlobals mg->bG l.prog w (K w.params) mg base (CX w) k fa fd [x] (sp w))
  (kO:∀(w:World) (H:Hp) (a:Addr) (ns:List Int),ns.length<=n->Only H->aQ (K w.params) H a (ns.map V.int)->sp w [.ref a] H (λv _=>v=.bl true) λ_ _ _=>False)
  (vq:∀(w:World) (H:Hp) (s:Shared) (e:Value) (s':Shared),CX w [] H s (λ_ _ _=>False) e s'->False) :
  PySem.W.WalkO q loose XP YP l.row.toRowW d [] (λf vs=>PySem.call f vs):=by
 refine Att.attach_call hn pL λw s₀ ao mg mb fa o pm cd doc a vs ns G Y ho hd fH hmg pM hints hlen hg=>?_
 have KX:=hY w _ Y
 obtain ⟨fd,hb,hF⟩:=F w mg fa _ KX G.T.g hmg
 exact L_ KX G.T.g G.T.b G.T.builtins G.T.nolimit hg pM hints (ja hlen fj) hr hF hb (λH hO hS=>kO w H a ns hlen hO hS) λH e s'=>vq w H ao e s'
def inClass (s:Stmt) (j:Nat):Stmt:=match s with
 | .ClassDef _ _ _ body _ _ _ _ _ _ _=>body.getD j (.Pass ⟨0,0,0,0⟩)
 | _=>.Pass ⟨0,0,0,0⟩
def gA (s:Stmt):Arguments:=match s with
 | .FunctionDef _ a _ _ _ _ _ _ _ _=>a
 | _=>{ posonlyargs:=[],args:=[],vararg:=none,kwonlyargs:=[],kw_defaults:=[],kwarg:=none,defaults:=[] }
def jY (s:Stmt):List Stmt:=match s with
 | .FunctionDef _ _ b _ _ _ _ _ _ _=>b
 | _=>[]
def zW (s:Stmt):Scope:=match s with
 | .FunctionDef _ _ _ _ _ _ sc _ _ _=>sc
 | _=>{ kind:=.function,names:=[],isGenerator:=false,isCoroutine:=false }
abbrev E0:XK:=λ_ _ _=>False
structure eZ (K:PySem.W.Frag) (x qual:Str) (st:Stmt) (f:Addr) (fd:FuncData):Prop where
 ex:∃(oc:Value) (od:Option Addr) (kV doc pm:Value) (an:Option Addr) (aU ct:Value) (fK:Array (Option Value)),
  fd=PySem.W.fnOf x qual (gA st) (jY st) (zW st) .none kV doc pm an aU ct/\K.lookup f=some ⟨oc,od,.func fd,fK⟩/\PySem.W.codeIn K aU qual=true
 kp:PySem.W.keepIn K (.ref f)=true
section
variable {P:Program}{w:World}{K:PySem.W.Frag}{mg:Ab}{base:Heap}
def eZ.binds {x qual:Str}{st:Stmt}{f:Addr}{fd:FuncData}{ps:Ad}(F:eZ K x qual st f fd)
  (h:∀(kV doc pm:Value) (an:Option Addr) (aU ct:Value) (us:Af),us.length=ps.length->bindArgs (PySem.W.fnOf x qual (gA st) (jY st) (zW st) .none kV doc pm an aU ct) ⟨us,[]⟩=pure (ps.zip us)):Binds K fd ps []:=by
 obtain ⟨oc,od,kV,doc,pm,an,aU,ct,fK,rfl,lk,fH⟩:=F.ex
 exact .all (h kV doc pm an aU ct)
def nZ {x qual:Str}{st:Stmt}{f:Addr}{oc:Value}{od an:Option Addr}{fK:Array (Option Value)}{kV doc pm aU ct:Value}(l:K.lookup f=some ⟨oc,od,.func (PySem.W.fnOf x qual (gA st) (jY st) (zW st) .none kV doc pm an aU ct),fK⟩)
  (c:PySem.W.codeIn K aU qual=true) (k:PySem.W.keepIn K (.ref f)=true):eZ K x qual st f (PySem.W.fnOf x qual (gA st) (jY st) (zW st) .none kV doc pm an aU ct):=⟨⟨oc,od,kV,doc,pm,an,aU,ct,fK,rfl,l,c⟩,k⟩
end
section
variable {X:Cx}
def pv (i:Nat) {x:Str} {pos:Pos} (hN:X.N[i]?=some x:=by rfl) (hv:rG X.env.scope x:=by first|exact Or.inl rfl|exact Or.inr (Or.inl rfl)|exact Or.inr (Or.inr rfl)) (hd:(x==("__debug__" : Str))=false:=by decide)
  (fH:(x==("__classdict__" : Str))=false:=by decide):PE X (.Name x pos) (Ck i):=Cm hN hv hd fH
end
end L2
set_option maxHeartbeats 4000000
namespace L2
open PySem PySem.Spec PyProof.Rows
theorem C7 {l z D b:Nat}(h1:l<z) (h2:z=D) (h3:D<=b) (h4:b=l):False:=by omega
theorem lY {b D C:Nat}(h1:b<D) (h2:C=D+1) (h3:b=C):False:=by omega
theorem C8 {b e d:Nat}(h1:b<e) (h2:e<=d) (h3:d<=b):False:=by omega
theorem C_ {b D p:Nat}(h1:b<D) (h2:p=D) (h3:p=b):False:=by omega
theorem vt (env:Env):∀(l:List (Str×NameKind)) (acc:List (Str×Addr)),(∀p∈l,p.2=.free->∃c,env.cells.lookup p.1=some c) ->
  ∃cl,(forIn l acc (λ(x:Str×NameKind) (cs:List (Str×Addr))=>if (x.snd==NameKind.free)=true then do
            let a <-cellOf env x.fst
            pure (ForInStep.yield ((x.fst,a)::cs))
      else pure (ForInStep.yield cs)):Sem (List (Str×Addr)))=pure cl /\
   (∀y c,(y,c)∈cl->(y,c)∈acc\/(env.cells.lookup y=some c/\(y,NameKind.free)∈l))/\(∀p∈acc,p∈cl)/\(∀y,(y,NameKind.free)∈l->∃c,(y,c)∈cl)
 | [],acc,_=>⟨acc,rfl,λ_ _ h=>.inl h,λ_ h=>h,λ_ h=>nomatch h⟩
 | (n,k)::r,acc,fB=>by
  by_cases hk:k=.free
  ·subst hk
   obtain ⟨c,hc⟩:=fB (n,.free) y0 rfl
   obtain ⟨cl,e,h1,h2,h3⟩:=vt env r ((n,c)::acc) λp hp=>fB p (jm _ hp)
   refine ⟨cl,?_,λy d hy=>?_,λp hp=>h2 p (jm _ hp),λy hy=>?_⟩
   ·rw [List.forIn_cons]
    simp only [beq_self_eq_true,ia]
    have:cellOf env n=pure c:=by unfold cellOf;rw [hc]
    rw [this]
    exact e
   ·rcases h1 y d hy with q|q
    ·rcases yC.mp q with q|q
     ·cases q
      exact .inr ⟨hc,y0⟩
     ·exact .inl q
    ·exact .inr ⟨q.1,jm _ q.2⟩
   ·rcases yC.mp hy with q|q
    ·cases q
     exact ⟨c,h2 _ y0⟩
    ·exact h3 y q
  ·obtain ⟨cl,e,h1,h2,h3⟩:=vt env r acc λp hp=>fB p (jm _ hp)
   refine ⟨cl,?_,λy d hy=>?_,h2,λy hy=>?_⟩
   ·rw [List.forIn_cons]
    have:(k==NameKind.free)=false:=by simpa using hk
    simp only [this,Bool.false_eq_true,if_false]
    exact e
   ·rcases h1 y d hy with q|q
    ·exact .inl q
    ·exact .inr ⟨q.1,jm _ q.2⟩
   ·rcases yC.mp hy with q|q
    ·cases q
     exact absurd rfl hk
    ·exact h3 y q
theorem Dc {β:Type}{y:Str}:∀{l:List (Str×β)}{c:β},(y,c)∈l->∃d,l.lookup y=some d
 | (n,b)::r,c,h=>by
  rw [wW]
  cases e:y==n with
  | true=>exact ⟨b,rfl⟩
  | false =>
   rcases yC.mp h with q|q
   ·cases q
    simp at e
   ·exact Dc q
def Dd (env:Env) (scope:Scope) (fB:∀p∈scope.names,p.2=.free->∃c,env.cells.lookup p.1=some c) :
  ∃cl,closureFor scope env=pure cl/\(∀y c,cl.lookup y=some c->env.cells.lookup y=some c)/\(∀y,(y,NameKind.free)∈scope.names->∃c,cl.lookup y=some c):=by
 obtain ⟨cl,e,h1,_,h3⟩:=vt env scope.names [] fB
 refine ⟨cl,?_,λy c hy=>?_,λy hy=>?_⟩
 ·simp only [closureFor]
  rw [e]
  rfl
 ·rcases h1 y c (PySem.mem_of_lookup hy) with z|z
  ·cases z
  ·exact z.1
 ·obtain ⟨c,hc⟩:=h3 y hy
  exact Dc hc
structure dr (sc scope:Scope) (x:Str):Prop where
 kind:scope.kind=.function
 ncell:∀y∈scope.names,y.2 ≠ .cell
 names:∀y∈scope.names,y.2=.local->scope.names.lookup y.1=some .local/\(y.1=x\/y.1 = ".0")
 hx:scope.names.lookup x=some .local
 free:∀y∈scope.names,y.2=.free->sc.names.lookup y.1=some .cell
def kR (X:Cx) (M:Ad) (scope:Scope) (cl:List (Str×Addr)) (x:Str) (C:Addr) (ae:Shared) (ag:Hp) (fp:Ae) (E:Aa):Cx :=
 { X with N:=x::M,s₀:=ae,H₀:=ag,env:=compEnvC scope cl C X.env,outer:=X.stack,ex:=fp,fn:=λ_=>false,pn:=[],xe:=E }
def Hid (scope:Scope) (M N:Ad):Prop:=M.length=N.length/\∀p∈M.zip N,p.1=p.2\/p.1∉scope.names.map Prod.fst
def Hid.refl {scope:Scope}{N:Ad}:Hid scope N N:=⟨rfl,λp hp=>.inl (by
 obtain ⟨i,hi,e⟩:=List.getElem_of_mem hp
 rw [List.getElem_zip] at e
 rw [<-e])⟩
def Hid.get {scope:Scope}{M N:Ad}(h:Hid scope M N) {i:Nat}{y:Str}(e:M[i]?=some y):N[i]?=some y\/y∉scope.names.map Prod.fst:=by
 obtain ⟨hi,ei⟩:=yt.mp e
 have hj:i<N.length:=h.1▸hi
 have hm:(M[i],N[i])∈M.zip N:=wb (i:=i) (by rw [List.getElem?_zip_eq_some];exact ⟨yx hi,yx hj⟩)
 rcases h.2 _ hm with q|q
 ·exact .inl (by rw [yx hj,<-ei];exact congrArg some q.symm)
 ·exact .inr (by rw [<-ei];exact q)
def De (X:Cx) (scope:Scope) (cl:List (Str×Addr)) (x:Str) (C:Addr) (ae:Shared) (ag:Hp) (fp:Ae) (E:Aa):Cx :=
 { X with N:=x::X.N,s₀:=ae,H₀:=ag,env:=compEnvC scope cl C X.env,outer:=X.stack,ex:=fp,fn:=λ_=>false,pn:=[],xe:=E }
section
variable {X:Cx}{scope:Scope}{cl:List (Str×Addr)}{x:Str}
def kS {env:Env}{y:Str}{k:NameKind}(h:(relabel scope env).names.lookup y=some k):∃k0,(y,k0)∈scope.names/\((k0=.free/\env.kindOf y=some .cell/\k=.cell)\/(k=k0/\¬(k0=.free/\env.scope.kind=.function/\env.kindOf y=some .cell))):=by
 have hm:=PySem.mem_of_lookup h
 obtain ⟨⟨n,k0⟩,hn,e⟩:=jv.mp hm
 by_cases hc:(k0==NameKind.free&&env.scope.kind == .function&&env.kindOf n==some .cell)=true
 ·have e':(n,NameKind.cell)=(y,k):=by rw [<-e];simp only [hc,ia]
  cases e'
  simp only [iT,beq_iff_eq] at hc
  exact ⟨_,hn,.inl ⟨hc.1.1,hc.2,rfl⟩⟩
 ·have e':(n,k0)=(y,k):=by rw [<-e];simp only [hc,if_false];rfl
  cases e'
  refine ⟨_,hn,.inr ⟨rfl,λ⟨a,b,c⟩=>hc ?_⟩⟩
  simp [a,b,c]
def Df (S:dr X.env.scope scope x) {y:Str} (h:(relabel scope X.env).names.lookup y=some .local):y=x\/y = ".0" := by
 obtain ⟨k0,hm,⟨_,_,e⟩|⟨e,_⟩⟩:=kS h
 ·cases e
 ·subst e
  exact (S.names _ hm rfl).2
def vv (S:dr X.env.scope scope x) (hk:X.env.scope.kind=.function) {y:Str}(h:(relabel scope X.env).names.lookup y=some .cell\/(relabel scope X.env).names.lookup y=some .free):(y,NameKind.free)∈scope.names:=by
 rcases h with h|h
 ·obtain ⟨k0,hm,⟨e,_,_⟩|⟨e,_⟩⟩:=kS h
  ·subst e;exact hm
  ·subst e;exact absurd rfl (S.ncell _ hm)
 ·obtain ⟨k0,hm,⟨_,_,e⟩|⟨e,n⟩⟩:=kS h
  ·cases e
  ·subst e
   exact hm
end
def Ma {P:Program}{wd:World}{B:Around}{Z:Result->Shared->Prop}{u0:Shared}{el tg iter:Expr}{sc:Scope}{ps:Pos}{iv ac:Value}{ev:Env}(J0:Nat->Shared->Prop)
  (turn:∀k u,J0 k u->wpAny (model P wd) B (pyNext iv) (λr u1=>match r with|none=>Z (.ok .next) u1|some v=>wpAny (model P wd) B (letOwnedTupleGo tg iv v) (λ_ u2 =>
   wpAny (model P wd) B (assign tg ev v) (λ_ u3=>wpAny (model P wd) B (eval el ev) (λy u4=>wpAny (model P wd) B (call (.builtin "list.append") [ac,y]) (λ_ u5=>∃m,m<k/\J0 m u5)
    (notedBy (model P wd) B ev λe u=>Z (.error e) u) u4) (notedBy (model P wd) B ev λe u=>Z (.error e) u) u3) (notedBy (model P wd) B ev λe u=>Z (.error e) u) u2) (notedBy (model P wd) B ev λe u=>Z (.error e) u) u1)
   (notedBy (model P wd) B ev λe u=>Z (.error e) u) u)
  (k0:Nat) (iZ:J0 k0 u0):codeAny (model P wd) B (.compLoop (.ListComp el [⟨tg,iter,[],0⟩] sc ps) 0 iv ac ev) Z u0:=by
 refine codeAny_loop rfl J0 (λk u hJ=>wpAny_noted (E:=λe u=>Z (.error e) u) (env:=ev) (m:=compTurn (.ListComp el [⟨tg,iter,[],0⟩] sc ps) 0 iv ac ev) ?_) k0 iZ
 rw [compTurn_list1]
 have one:=turn k u hJ
 refine zx (wpAny_standAt (zx (jX one (λr u1 q1=>?_) λ_ _ z=>z)))
 cases r with
 | none=>exact zZ q1
 | some v =>
  refine zx (jX q1 (λ_ u2 q2=>zx (jX q2 (λ_ u3 q3=>?_) λ_ _ z=>z)) λ_ _ z=>z)
  exact zx (zx (jX q3 (λy u4 q4=>zx (jX q4 (λ_ u5 q5=>zZ (zZ ⟨rfl,q5⟩)) λ_ _ z=>z)) λ_ _ z=>z))
def lZ (J:It) (te:TE) (U:St) (Q:VK) (H1:Hp):Prop:=∃W:Nat->Nat->List V->Hp->Prop,(∃m,W 0 m [] H1)/\∀i m ys H,W i m ys H ->
 (J.stop i H/\ys.length<=sizeLine/\∀l,H l=none->Q (.ref l) (upd H l (.lst ys))) \/
 (J.go i H/\ys.length<=sizeLine/\∀z H',J.yld i H z H'->te (some z::U) H' λy H2=>∃m',m'<m/\W (i+1) m' (ys++[y]) H2)
def Dg (wi:TI) (te:TE):TE:=λU H Q=>wi U H λJ H1=>lZ J te U Q H1
end L2
namespace L2
open PySem PySem.Spec PyProof.Rows PySem.W
structure du (sc scope:Scope) (xs:Ad):Prop where
 kind:scope.kind=.function
 ncell:∀y∈scope.names,y.2 ≠ .cell
 names:∀y∈scope.names,y.2=.local->scope.names.lookup y.1=some .local/\(y.1∈xs\/y.1 = ".0")
 free:∀y∈scope.names,y.2=.free->sc.names.lookup y.1=some .cell
def eE (X:Cx) (scope:Scope) (cl:List (Str×Addr)) (xs:Ad) (C:Addr) (ae:Shared) (ag:Hp) (fp:Ae) (E:Aa):Cx :=
 { X with N:=xs++X.N,s₀:=ae,H₀:=ag,env:=compEnvC scope cl C X.env,outer:=X.stack,ex:=fp,fn:=λ_=>false,pn:=[],xe:=E }
def fS (X:Cx) (M:Ad) (scope:Scope) (cl:List (Str×Addr)) (xs:Ad) (C:Addr) (ae:Shared) (ag:Hp) (fp:Ae) (E:Aa):Cx :=
 { X with N:=xs++M,s₀:=ae,H₀:=ag,env:=compEnvC scope cl C X.env,outer:=X.stack,ex:=fp,fn:=λ_=>false,pn:=[],xe:=E }
section
variable {X:Cx}{scope:Scope}{xs:Ad}
def Dh (S:du X.env.scope scope xs) {y:Str} (h:(relabel scope X.env).names.lookup y=some .local):y∈xs\/y = ".0" := by
 obtain ⟨k0,hm,⟨_,_,e⟩|⟨e,_⟩⟩:=kS h
 ·cases e
 ·subst e
  exact (S.names _ hm rfl).2
def vw (S:du X.env.scope scope xs) (hk:X.env.scope.kind=.function) {y:Str}(h:(relabel scope X.env).names.lookup y=some .cell\/(relabel scope X.env).names.lookup y=some .free):(y,NameKind.free)∈scope.names:=by
 rcases h with h|h
 ·obtain ⟨k0,hm,⟨e,_,_⟩|⟨e,_⟩⟩:=kS h
  ·subst e;exact hm
  ·subst e;exact absurd rfl (S.ncell _ hm)
 ·obtain ⟨k0,hm,⟨_,_,e⟩|⟨e,n⟩⟩:=kS h
  ·cases e
  ·subst e
   exact hm
end
def i6 (X:Cx) (ifs:List Expr) (t:TT):Prop:=∀(pins:Ac) (s:Shared) (U:St) (H:Hp) (Q:Bool->Hp->Prop),Inv X pins U H s->t U H Q ->
 wpAny (model X.prog X.w) X.A (forIn ifs true λc r=>if r=true then do let ok <-isTrue c X.env (eval c X.env);pure (ForInStep.yield ok) else pure (ForInStep.yield r)) (TP X pins U Q) X.xe s
def n_:TT:=λ_ H Q=>Q true H
def Di {X:Cx}:i6 X [] n_:=λpins s U H Q I h=>wpAny_tests_nil ⟨H,I,h⟩
def Dj {X:Cx}{c:Expr}{t:TT}(h:PT X c t):i6 X [c] t:=λpins s U H Q I q=>wpAny_tests_one (h pins s U H Q I q)
def i6.nox {X:Cx}{ifs:List Expr}{t:TT}(h:i6 X.nox ifs t):i6 X ifs t:=λpins s U H Q I hw =>
 jX (h pins s U H Q (I.wish _) hw) (λb s' ⟨H',I',q⟩=>⟨H',I'.unwish,q⟩) λ_ _ z=>z.elim
def Mb {P:Program}{wd:World}{B:Around}{Z:Result->Shared->Prop}{u0:Shared}{el tg iter:Expr}{ifs:List Expr}{sc:Scope}{ps:Pos}{iv ac:Value}{ev:Env}(J0:Nat->Shared->Prop)
  (turn:∀k u,J0 k u->wpAny (model P wd) B (pyNext iv) (λr u1=>match r with|none=>Z (.ok .next) u1|some v=>wpAny (model P wd) B (letOwnedTupleGo tg iv v) (λ_ u2 =>
   wpAny (model P wd) B (assign tg ev v) (λ_ u3=>wpAny (model P wd) B (forIn ifs true λc r=>if r=true then do let ok <-isTrue c ev (eval c ev);pure (ForInStep.yield ok) else pure (ForInStep.yield r)) (λok u4 =>
    if ok=true then wpAny (model P wd) B (eval el ev) (λy u5=>wpAny (model P wd) B (call (.builtin "list.append") [ac,y]) (λ_ u6=>∃m,m<k/\J0 m u6)
    (notedBy (model P wd) B ev λe u=>Z (.error e) u) u5) (notedBy (model P wd) B ev λe u=>Z (.error e) u) u4 else ∃m,m<k/\J0 m u4) (notedBy (model P wd) B ev λe u=>Z (.error e) u) u3) (notedBy (model P wd) B ev λe u=>Z (.error e) u) u2) (notedBy (model P wd) B ev λe u=>Z (.error e) u) u1)
   (notedBy (model P wd) B ev λe u=>Z (.error e) u) u)
  (k0:Nat) (iZ:J0 k0 u0):codeAny (model P wd) B (.compLoop (.ListComp el [⟨tg,iter,ifs,0⟩] sc ps) 0 iv ac ev) Z u0:=by
 refine codeAny_loop rfl J0 (λk u hJ=>wpAny_noted (E:=λe u=>Z (.error e) u) (env:=ev) (m:=compTurn (.ListComp el [⟨tg,iter,ifs,0⟩] sc ps) 0 iv ac ev) ?_) k0 iZ
 rw [compTurn_list]
 have one:=turn k u hJ
 refine zx (wpAny_standAt (zx (jX one (λr u1 q1=>?_) λ_ _ z=>z)))
 cases r with
 | none=>exact zZ q1
 | some v =>
  refine zx (jX q1 (λ_ u2 q2=>zx (jX q2 (λ_ u3 q3=>zx (jX q3 (λok u4 q4=>?_) λ_ _ z=>z)) λ_ _ z=>z)) λ_ _ z=>z)
  cases ok with
  | true=>exact zx (zx (jX q4 (λy u4 q4=>zx (jX q4 (λ_ u5 q5=>zZ (zZ ⟨rfl,q5⟩)) λ_ _ z=>z)) λ_ _ z=>z))
  | false=>exact zx (zZ (zZ ⟨rfl,q4⟩))
def i7 (J:It) (gt:TG) (tt:TT) (te:TE) (n:Nat) (U:St) (Q:VK) (H1:Hp):Prop:=∃W:Nat->Nat->List V->Hp->Prop,(∃m,W 0 m [] H1)/\∀i m ys H,W i m ys H ->
 (J.stop i H/\ys.length<=sizeLine/\∀l,H l=none->Q (.ref l) (upd H l (.lst ys))) \/
 (J.go i H/\ys.length<=sizeLine/\∀z H',J.yld i H z H'->gt z (List.replicate n none++U) H' λav H1=>∃own:St,av=own++U/\own.length=n/\tt av H1 λb H2 =>
  if b=true then te av H2 λy H3=>∃m',m'<m/\W (i+1) m' (ys++[y]) H3 else ∃m',m'<m/\W (i+1) m' ys H2)
def vx (wi:TI) (gt:TG) (tt:TT) (te:TE) (n:Nat):TE:=λU H Q=>wi U H λJ H1=>i7 J gt tt te n U Q H1
theorem Dk {X:Cx} {elt iter tg:Expr} {ifs:List Expr} {xs:Ad} {pos:Pos} {scope:Scope} {wi:TI} {gt:TG} {tt:TT} {te:TE} {M:Ad} (hc:X.calm=true) (S:du X.env.scope scope xs) (eN:Hid scope M X.N) (cD:((".0" : Str)::(xs++M)).Nodup)
  (hi:PI X tg iter wi) (vy:∀cl C ae ag fp E,PG (fS X M scope cl xs C ae ag fp E) tg gt) (l8:∀cl C ae ag fp,i6 (fS X M scope cl xs C ae ag fp (λ_ _=>False)) ifs tt) (he:∀cl C ae ag fp,PE (fS X M scope cl xs C ae ag fp (λ_ _=>False)) elt te)
  (hs:∀v,foldedSetIterable iter X.env v=pure v:=by intro _;rfl):PE X (.ListComp elt [⟨tg,iter,ifs,0⟩] scope pos) (vx wi gt tt te xs.length):=by
 intro pins s U H Q I h
 have hN:(xs++M).Nodup:=(jH.mp cD).2
 have vz:(".0" : Str)∉M:=λz=>(jH.mp cD).1 (jn _ z)
 obtain ⟨cl,l_,di,kT⟩:=Dd X.env scope λp hp hf=>I.ok.has p.1 (.inl (S.free p hp hf))
 have ma:X.env.scope.kind=.function:=I.ok.kind
 rw [eval_ListComp]
 refine wpAny_comprehension_free (use:=none) rfl hs l_ S.kind (λy hy hl=>(S.names y hy hl).1) ?_
 refine aP (hi pins s U H _ I h) λv s1 h1=>aP h1 λrK ae h2=>?_
 obtain ⟨it,fp,tn,J,H2,e,I2,T,ay,f2,W,⟨m0,w0⟩,turn⟩:=h2
 subst e
 refine gf (wpAny_newFunctionEnv S.ncell (by intro y hy;simp at hy) (λaz aD aB=>?_) S.kind)
 dsimp only at aD aB ⊢
 generalize hH2:ae.heap.push { cls:=.type "list", dict:=none,data:=.seq ([]:Af).toArray }=G2 at aD aB ⊢
 have hC:G2.objs.size=ae.heap.objs.size+1:=by rw [<-hH2,Heap.size_push]
 have iw:ae.heap.objs.size≠G2.objs.size:=by rw [hC];exact jb (wv _)
 have Dl:ae.heap.objs.size<=G2.objs.size:=by rw [hC];exact Nat.le_succ _
 have old:∀b o,ae.heap.get? b=some o->az.get? b=some o:=λb o e=>by
  have hb:b≠G2.objs.size:=by rw [hC];exact jb (Nat.lt_succ_of_lt (yA e))
  exact aB.extBut b o hb (yh _ (hH2▸yh _ e))
 have pO:az.get? ae.heap.objs.size=some { cls:=.type "list", data:=.seq (#[]:Array Value) 0 }:=aB.extBut _ _ iw (yh _ (hH2▸yW _ rfl))
 generalize hD:ae.heap.objs.size=D at *
 generalize hCC:G2.objs.size=C at *
 have eI:∀{b:Nat} {o:Obj},ae.heap.get? b=some o->b<D:=λe=>by rw [<-hD];exact yA e
 have nofr:∀b,D<=b->b∉dc X.stack:=λb hb z=>by
  rcases yC.mp (I2.stkSub b z) with q|q
  ·exact C7 I2.lt hD hb q
  ·exact I2.nofs (by rw [hD];exact hb) q
 let E':Aa:=notedBy (model X.prog X.w) X.A (compEnvC scope cl C X.env) λe s'=>compPost (model X.prog X.w) X.A X.xe none (EP X pins U Q) (.ref D) C (.error e) s'
 let Y:Cx:=fS X M scope cl xs C ae H2 fp E'
 have dH:∀b∈fp,df X pins H2 b:=f2
 have mh:Y.Ok:=by
  refine ⟨I2.ok.mod,S.kind,I2.ok.glob,I2.ok.blt,(by show ae.heap.objs.size<=C;omega),λy z c h1 h2=>?_,λy hy=>?_,λy c hf=>?_,I2.ok.hd,I2.ok.frames,.inl rfl,λb hb=>?_,I2.bs,ja I2.ok.bsz I2.sz,λb o hb hx=>?_,λb hb hx=>?_,I2.stack,I2.stkFree⟩
  ·exact I2.ok.inj y z c (di y c h1) (di z c h2)
  ·exact kT y (vw S ma hy)
  ·cases hf
  ·refine ⟨λz=>?_,λy c hy=>(dH b hb).2.2.2.2.1 y c (di y c hy)⟩
   obtain ⟨o,ho,_⟩:=T.obj 0 _ ay b hb
   exact lY (eI ho) hC z
  ·rcases (dH b hx).2.2.2.1 with z|z
   ·exact I2.ok.noex b o hb z
   ·exact C8 (yA hb) I2.ok.bsz z
  ·rcases yC.mp (I2.stkSub b hx) with q|q
   ·exact (dH b hb).2.1 q
   ·exact (dH b hb).2.2.1 q
 have fM:∀{s':Shared} {H':Hp} {o:Obj},s'.heap.get? D=some o->H' D=none->(∀v,o.data ≠ .cell v)->∀p∈[(D,o)],s'.heap.get? p.1=some p.2/\H' p.1=none/\p.1≠Y.env.locals/\p.1∉Y.fs/\∀v,p.2.data ≠ .cell v:=λ{s' H' o} e1 e2 e3 p hp=>by
  have ep:p=(D,o):=by simpa using hp
  subst ep
  exact ⟨e1,e2,iw,nofr D (ym _),e3⟩
 have I0:Inv Y [(D,{ cls:=.type "list", data:=.seq (#[]:Array Value) 0 })] (List.replicate xs.length none++U) H2 { ae with heap:=az,toks:=ae.toks+([]:List (Str×Value)).length }:=by
  have fresh:∀b,D<=b->H2 b=none:=λb hb=>I2.hok.fresh (by rw [hD];exact hb)
  refine ⟨mh,rfl,I2.bare,Un.kept old,⟨_,aD,λi y v e1 e2 e3=>?_⟩,λy c hy=>?_,fresh C (by omega),λy c hy=>I2.freeC y c (di y c hy),λp hp=>fM pO (fresh D (ym _)) (λv z=>by cases z) p hp,I2.hok.kept old,?_⟩
  ·by_cases bj:i<xs.length
   ·rw [gi (by simpa using bj),List.getElem?_replicate] at e2
    simp [bj] at e2
   ·obtain ⟨j,rfl⟩:∃j,i=xs.length+j:=⟨i-xs.length,by omega⟩
    have pP:M[j]?=some y:=by
     have:(xs++M)[xs.length+j]?=some y:=e1
     rw [iU (by omega)] at this
     simpa using this
    have pQ:X.N[j]?=some y:=by
     rcases eN.get pP with q|q
     ·exact q
     ·refine absurd ?_ q
      rcases e3 with e3|e3|e3<;>(obtain ⟨k0,hm,_⟩:=kS e3;exact jv.mpr ⟨_,hm,rfl⟩)
    have vA:U[j]?=some (some v):=by
     rw [iU (by simp)] at e2
     simpa using e2
    have kU:¬(y∈xs\/y = ".0"):=λz=>by
     have hm:=wb pP
     rcases z with z|z
     ·exact (List.nodup_append.mp hN).2.2 y z y hm rfl
     ·rw [z] at hm
      exact vz hm
    have fC:(y,NameKind.free)∈scope.names:=by
     rcases e3 with e3|e3|e3
     ·exact absurd (Dh S e3) kU
     ·exact vw S ma (.inl e3)
     ·exact vw S ma (.inr e3)
    have pR:X.env.scope.names.lookup y=some .cell:=S.free _ fC rfl
    obtain ⟨m,hn,hl⟩:=I2.loc
    obtain ⟨u,r,l⟩:=hl j y v pQ vA (.inr (.inl pR))
    refine ⟨u,r,?_⟩
    rcases l with ⟨hk,_⟩|⟨_,c,nV,fI⟩
    ·have:X.env.kindOf y=some .cell:=pR
     rw [this] at hk;cases hk
    ·obtain ⟨c',cw⟩:=kT y fC
     have:=di y c' cw
     rw [nV] at this
     cases this
     refine .inr ⟨?_,c,cw,?_⟩
     ·rcases e3 with e3|e3|e3
      ·exact absurd (Dh S e3) kU
      ·exact .inl e3
      ·exact .inr e3
     ·obtain ⟨o,ho,hd⟩:=fI
      exact ⟨o,old c o ho,hd⟩
  ·obtain ⟨v,o,ho,hd⟩:=I2.cell y c (di y c hy)
   exact ⟨v,o,old c o ho,hd⟩
  ·show (List.replicate xs.length none++U).length=(xs++M).length
   simp [I2.len,eN.1]
 have mi:∀{pl:Ac} {H':Hp},(∀p∈pl,p.1=D)->(∀b∈fp,H' b=none)->∀b∈fp,df Y pl H' b:=λ{pl H'} bU hn b hb=>by
  obtain ⟨o,ho,_⟩:=T.obj 0 _ ay b hb
  refine ⟨hn b hb,λz=>?_,?_,.inl hb,(mh.exf b hb).2,λp hp z=>?_⟩
  ·exact lY (eI ho) hC z
  ·exact mh.exfs b hb
  ·have hp':p∈pl:=by simpa [Y,fS] using hp
   exact C_ (eI ho) (bU p hp') z
 have loop:codeAny (model X.prog X.w) X.A (.compLoop (.ListComp elt [⟨tg,iter,ifs,0⟩] scope pos) 0 (.ref it) (.ref D) (compEnvC scope cl C X.env))
   (compPost (model X.prog X.w) X.A X.xe none (EP X pins U Q) (.ref D) C) { ae with heap:=az,toks:=ae.toks+([]:List (Str×Value)).length }:=by
  refine Mb (λn s'=>∃i ys H' its k,Inv Y [(D,{ cls:=.type "list", data:=.seq (its:Af).toArray k })] (List.replicate xs.length none++U) H' s'/\Vals ys its/\tn i s'.heap/\(∀b∈fp,H' b=none)/\W i n ys H') ?_ m0
   ⟨0,[],H2,[],0,I0,.nil,T.keep 0 _ _ ay (λb hb o e=>old b o e),λb hb=>(dH b hb).1,w0⟩
  rintro n s3 ⟨i,ys,H3,its,k,I3,rv,aS,kN,w3⟩
  have gE:∀{o:Obj},∀p∈[(D,o)],p.1=D:=λ{o} p hp=>by
   have ep:p=(D,o):=by simpa using hp
   rw [ep]
  obtain ⟨gD,nD,_,_,_⟩:=I3.pin (D,_) (jn _ y0)
  rcases turn i n ys H3 w3 with ⟨stop,hz,q⟩|⟨go,hz,step⟩
  ·refine aP (T.done Y rfl rfl rfl hc i _ s3 _ H3 E' I3 (mi gE kN) aS stop) λr s4 ⟨hr,I4⟩=>?_
   subst hr
   obtain ⟨vB,mj,_,_,_⟩:=I4.pin (D,_) (jn _ y0)
   obtain ⟨m4,vC,_⟩:=id I4.loc
   refine ⟨m4,vC,λh' dI=>?_⟩
   refine ⟨.ref D,upd H3 D (.lst ys),?_,rfl,q D mj⟩
   have ig:∀{b:Addr} {u:HO},H3 b=some u->b≠C:=λe z=>by
    have:H3 C=none:=I4.free
    rw [z,this] at e;cases e
   refine I2.call' (s':={ s4 with heap:=h' }) (ch:=fp) (H':=upd H3 D (.lst ys)) I4.os ?_ ?_ I4.bare λb hb=>⟨(dH b hb).2.2.2.1,(dH b hb).2.1,(dH b hb).2.2.2.2.1,(dH b hb).2.2.2.2.2⟩
   ·have B:=I4.base
    have mm:∀{b:Nat} {o:Obj},ae.heap.get? b=some o->b≠C:=λe z=>lY (eI e) hC z
    have mn:∀{b:Addr} {u:HO},H3 b=some u->b≠D:=λe z=>by rw [z,mj] at e;cases e
    refine ⟨λb o e nn hb hx=>(dI.2 b (mm e)).trans (B.keep b o e nn hb hx),λb o e nn hb hx=>?_,λb o e nn hx=>?_,λb o e hx=>?_,λb xs e=>?_,λb o u e=>?_,λb ps e=>?_⟩
    ·obtain ⟨sl,z⟩:=B.slot b o e nn hb hx
     exact ⟨sl,(dI.2 b (mm e)).trans z⟩
    ·have vD:b≠D:=jb (eI e)
     rw [yE vD]
     exact B.free b o e nn hx
    ·obtain ⟨o',z⟩:=B.there b o e hx
     exact ⟨o',(dI.2 b (mm e)).trans z⟩
    ·have z:=B.tups b xs e
     rw [yE (mn z)];exact z
    ·have z:=B.frzs b o u e
     rw [yE (mn z)];exact z
    ·obtain ⟨more,z⟩:=B.tbls b ps e
     exact ⟨more,by rw [yE (mn z)];exact z⟩
   ·intro a o e
    by_cases ha:a=D
    ·subst ha
     rw [jf] at e
     cases e
     exact ⟨hz,its,k,rv,(dI.2 _ iw).trans vB⟩
    ·rw [yE ha] at e
     have fD:∀b u,H3 b=some u->(upd H3 D (.lst ys)) b=some u:=λb u z=>by
      have hb:b≠D:=λw=>by rw [w,mj] at z;cases z
      rw [yE hb];exact z
     refine (I4.hok a o e).stay (λb u hb z=>(dI.2 b ?_).trans z) (λb z=>fD b _ z) λb xs z=>fD b _ z
     rcases hb with hb|hb
     ·rw [hb];exact ig e
     ·exact ig hb
  ·refine aP (T.item Y rfl rfl rfl hc i _ s3 _ H3 E' I3 (mi gE kN) aS go) λr s4 ⟨u,hr,h4⟩=>?_
   subst hr
   refine aP h4 λ_ s5 ⟨z,H5,I5,r5,y5,fJ,pB⟩=>?_
   have pD:=I5.pinned (mi gE pB) (T.obj _ _ fJ)
   have gF:PG Y tg gt:=vy cl C ae H2 fp E'
   have vE:PE Y elt te:=PE.nox (X:=Y) (he cl C ae H2 fp)
   have Mc:i6 Y ifs tt:=i6.nox (X:=Y) (l8 cl C ae H2 fp)
   refine aP (gF _ s5 (List.replicate xs.length none++U) H5 z u _ pD r5 (step z _ y5)) λ_ s6 ⟨aG,H6,I6,own,e1,e2,q6⟩=>?_
   subst e1
   have wk:∀(j:Nat) v,(List.replicate xs.length none++U)[j]?=some (some v)->(own++U)[j]?=some (some v):=λj v e=>by
    by_cases bj:j<xs.length
    ·rw [gi (by simpa using bj),List.getElem?_replicate] at e
     simp [bj] at e
    ·rw [iU (by simp;omega)] at e
     rw [iU (by omega),e2]
     simpa using e
   have wl:(List.replicate xs.length none++U).length=(own++U).length:=by simp [e2]
   refine aP (Mc _ s6 _ _ _ I6 q6) λb s7 ⟨H7,I7,q7⟩=>?_
   cases b with
   | true =>
    refine aP (vE _ s7 _ _ _ I7 q7) λuy s7 ⟨y,H7,I7,ry,m',hm,w7⟩=>?_
    obtain ⟨pS,mq,_,_,_⟩:=I7.pin (D,_) (jn _ (gh _ y0))
    refine wpAny_list_append_plain ⟨k,pS⟩ (λh' bU dI=>?_) (by rw [yQ,<-rv.length];exact hz)
    obtain ⟨k',pU⟩:=bU
    have I8:Inv Y [] (own++U) H7 { s7 with heap:=h' }:=(I7.pins_of (pins':=[]) (λp hp=>nomatch hp)).turned (it:=D) (t':=s7.toks) (λb o hb e=>(dI.2 b hb).trans e) mq iw
     (.inr (by show ae.heap.objs.size<=D;omega)) (λa c hy mv=>by
      obtain ⟨v',o',ho',_⟩:=I2.cell a c (di a c hy)
      exact jb (eI ho') mv) (λp hp=>by simp [Y,fS] at hp)
    have I9:Inv Y [] (List.replicate xs.length none++U) H7 { s7 with heap:=h' }:=I8.weak wl wk
    have dZ:∀b∈fp,∃o,s5.heap.get? b=some o/\s7.heap.get? b=some o/\H7 b=none:=λb hb=>by
     obtain ⟨o,e,_⟩:=T.obj _ _ fJ b hb
     have q:=I7.pin (b,o) (jn _ (jn _ (pA hb e)))
     exact ⟨o,e,q.1,q.2.1⟩
    have vF:∀b∈fp,b≠D:=λb hb=>by
     obtain ⟨o,ho,_⟩:=T.obj 0 _ ay b hb
     exact jb (eI ho)
    have eT:its.toArray.push uy=(its++[uy]).toArray:=by simp
    rw [eT] at pU
    refine ⟨m',hm,i+1,ys++[y],H7,its++[uy],k',I9.pins_of (fM pU mq λv e=>by cases e),rv.append (.cons ry .nil),T.keep (i+1) _ _ fJ λb hb o e=>?_,λb hb=>?_,w7⟩
    ·obtain ⟨o',e1,e2,_⟩:=dZ b hb
     rw [e] at e1
     cases e1
     exact (dI.2 b (vF b hb)).trans e2
    ·obtain ⟨_,_,_,q⟩:=dZ b hb
     exact q
   | false =>
    obtain ⟨m',hm,w7⟩:=q7
    obtain ⟨pS,mq,_,_,_⟩:=I7.pin (D,_) (jn _ (gh _ y0))
    have I9:Inv Y [] (List.replicate xs.length none++U) H7 s7:=(I7.pins_of (pins':=[]) (λp hp=>nomatch hp)).weak wl wk
    have dZ:∀b∈fp,∃o,s5.heap.get? b=some o/\s7.heap.get? b=some o/\H7 b=none:=λb hb=>by
     obtain ⟨o,e,_⟩:=T.obj _ _ fJ b hb
     have q:=I7.pin (b,o) (jn _ (jn _ (pA hb e)))
     exact ⟨o,e,q.1,q.2.1⟩
    refine ⟨m',hm,i+1,ys,H7,its,k,I9.pins_of (fM pS mq λv e=>by cases e),rv,T.keep (i+1) _ _ fJ λb hb o e=>?_,λb hb=>?_,w7⟩
    ·obtain ⟨o',e1,e2,_⟩:=dZ b hb
     rw [e] at e1
     cases e1
     exact e2
    ·obtain ⟨_,_,_,q⟩:=dZ b hb
     exact q
 exact codeAny_compStart_list loop (T.self X.A 0 _ _ _ (T.keep 0 _ _ ay (λb hb o e=>old b o e)) loop)
def vG {X:Cx} {elt iter tg:Expr} {ifs:List Expr} {xs:Ad} {pos:Pos} {scope:Scope} {wi:TI} {gt:TG} {tt:TT} {te:TE} {N:Ad} (hc:X.calm=true) (S:du X.env.scope scope xs) (eN:X.N=N) (cD:((".0" : Str)::(xs++N)).Nodup)
  (hi:PI X tg iter wi) (vy:∀cl C ae ag fp E,PG (eE X scope cl xs C ae ag fp E) tg gt) (l8:∀cl C ae ag fp,i6 (eE X scope cl xs C ae ag fp (λ_ _=>False)) ifs tt) (he:∀cl C ae ag fp,PE (eE X scope cl xs C ae ag fp (λ_ _=>False)) elt te)
  (hs:∀v,foldedSetIterable iter X.env v=pure v:=by intro _;rfl):PE X (.ListComp elt [⟨tg,iter,ifs,0⟩] scope pos) (vx wi gt tt te xs.length) :=
 Dk (M:=X.N) hc S Hid.refl (by rw [eN];exact cD) hi vy l8 he hs
def Md {X:Cx} {elt iter:Expr} {x:Str} {px pos:Pos} {scope:Scope} {wi:TI} {te:TE} {M:Ad} (hc:X.calm=true) (S:dr X.env.scope scope x) (eN:Hid scope M X.N) (cD:((".0" : Str)::x::M).Nodup)
  (hi:PI X (.Name x px) iter wi) (he:∀cl C ae ag fp,PE (kR X M scope cl x C ae ag fp (λ_ _=>False)) elt te)
  (hs:∀v,foldedSetIterable iter X.env v=pure v:=by intro _;rfl):PE X (.ListComp elt [⟨.Name x px,iter,[],0⟩] scope pos) (Dg wi te):=by
 have hN:([x]++M).Nodup:=(jH.mp cD).2
 have S':du X.env.scope scope [x]:=⟨S.kind,S.ncell,λy hy h=>⟨(S.names y hy h).1,(S.names y hy h).2.imp (λe=>by rw [e];exact List.mem_singleton_self _) id⟩,S.free⟩
 have gF:∀cl C ae ag fp E,PG (fS X M scope cl [x] C ae ag fp E) (.Name x px) (wX 0):=λcl C ae ag fp E=>ik (X:=fS X M scope cl [x] C ae ag fp E) (i:=0) hN rfl (.inl (wB S.hx)) (.inr (wB S.hx))
 have e:∀U Q,(λJ H1=>lZ J te U Q H1)=λJ H1=>i7 J (wX 0) n_ te 1 U Q H1:=λU Q=>by
  funext J H1
  exact propext (exists_congr λW=>and_congr Iff.rfl (forall_congr' λi=>forall_congr' λm=>forall_congr' λys=>forall_congr' λH=>imp_congr Iff.rfl (or_congr Iff.rfl (and_congr Iff.rfl (and_congr Iff.rfl (forall_congr' λz=>forall_congr' λH'=>imp_congr Iff.rfl
   ⟨λh=>⟨[some z],rfl,rfl,h⟩,λ⟨_,_,_,h⟩=>h⟩))))))
 intro pins s U H Q I h
 refine Dk (te:=te) (tt:=n_) hc S' eN cD hi gF (λcl C ae ag fp=>Di) (λcl C ae ag fp=>he cl C ae ag fp) hs pins s U H Q I ?_
 show wi U H λJ H1=>i7 J (wX 0) n_ te 1 U Q H1
 rw [<-e]
 exact h
end L2
namespace L2
open PySem PySem.Spec PyProof.Rows
def vH (z:Str):It:=⟨λi _=>i<z.cps.size,λi H v H'=>H'=H/\∃c,z.cps[i]?=some c/\v=.str ⟨#[c]⟩,λi _=>z.cps.size<=i⟩
def Dm {P:Program} {w:World} {K:PySem.W.Frag} {tg:Expr} (z:Str) (t:Tok) (it:Addr) (ty:String) (nY:ty = "str_ascii_iterator" \/ ty = "str_iterator"):Turn P w K tg (vH z) [it] it (λi h=>h.IsStrIter it ty z t i) where
 mem:=by simp
 obj:=λi h st b hb=>by
  have e:b=it:=by simpa using hb
  subst e
  obtain ⟨o,e,c,d⟩:=st
  exact ⟨o,e,λv z=>by rw [d] at z;cases z⟩
 keep:=λi h h' st k=>by
  obtain ⟨o,e,r⟩:=st
  exact ⟨o,k it (by simp) o e,r⟩
 item:=by
  intro X hP hw hK hc i pins s U H E I hf st hg
  subst hP hw hK
  obtain ⟨f0,f1,f2,f3,f4,f5⟩:=hf it (by simp)
  have W:Walks X.prog X.w X.A it [it] [it] z.cps.size (SignAt z) (λi h=>h.IsStrIter it ty z t i):=by
   rcases nY with e|e
   ·rw [e];exact Walks.strAscii (I.ok.hd hc) it z t
   ·rw [e];exact Walks.strWide (I.ok.hd hc) it z t
  refine W.item i s _ _ hg st λv h' tk hv bu kk=>?_
  obtain ⟨c,u,Me,rfl⟩:=hv
  have I1:Inv X pins U H { s with heap:=h',toks:=tk }:=I.turned (λb o hb e=>kk b o (by simpa using hb) e) f0 f1 f3 f4 f5
  obtain ⟨o,e,cc,d⟩:=id bu
  exact ⟨_,rfl,rL (s:={ s with heap:=h',toks:=tk }) e cc d (by rcases nY with e|e<;>rw [e]<;>decide) ⟨.str ⟨#[c]⟩,H,I1,⟨u,rfl⟩,⟨rfl,c,Me,rfl⟩,bu,λb hb=>(hf b hb).1⟩⟩
 done:=by
  intro X hP hw hK hc i pins s U H E I hf st hg
  subst hP hw hK
  obtain ⟨f0,f1,f2,f3,f4,f5⟩:=hf it (by simp)
  have hn:z.cps[i]?=none:=by
   have Mf:z.cps.size<=i:=hg
   simpa using Mf
  rcases nY with e|e
  ·rw [e] at st
   exact wpAny_pyNext_ascii_end (I.ok.hd hc) st hn λh' eb=>⟨rfl,I.turned (t':=s.toks) (λb o hb e=>eb b o hb e) f0 f1 f3 f4 f5⟩
  ·rw [e] at st
   exact wpAny_pyNext_wide_end (I.ok.hd hc) st hn λh' eb=>⟨rfl,I.turned (t':=s.toks) (λb o hb e=>eb b o hb e) f0 f1 f3 f4 f5⟩
 self:=λA i s Q E st h=>by
  rcases nY with e|e
  ·rw [e] at st;exact wpAny_pyIter_striter_ascii st h
  ·rw [e] at st;exact wpAny_pyIter_striter_wide st h
section
variable {X:Cx}
def Mg:iX X (λx lo hi H Q=>∃z,x=.str z/\z.length<=sizeLine/\Q (.str (Txt.slice z lo hi)) H):=by
 intro pins s U H x v vl vu lo hi sl Q I rx hs pl pu h
 obtain ⟨z,rfl,hz,q⟩:=h
 obtain ⟨t,rfl⟩:=rx
 refine ⟨"str", _,F.slot_str_getitem.lookup,typeIs_str _ _ _,?_⟩
 have fin:∀t' k,EP X pins U Q (.str (Txt.slice z lo hi) t') { s with toks:=k }:=λt' k=>⟨.str _,H,I.tok _,⟨_,rfl⟩,q⟩
 cases pl with
 | none =>
  cases pu with
  | none=>exact wpAny_getItem_str_slice (l:=none) (u:=none) (st:=none) hs rfl (post_val_or_str ⟨ja (Txt.slice_le z _ _) hz,fin⟩)
  | int j uj=>exact wpAny_getItem_str_slice (l:=none) (u:=some (j,uj)) (st:=none) hs rfl (post_val_or_str ⟨ja (Txt.slice_le z _ _) hz,fin⟩)
 | int i ui =>
  cases pu with
  | none=>exact wpAny_getItem_str_slice (l:=some (i,ui)) (u:=none) (st:=none) hs rfl (post_val_or_str ⟨ja (Txt.slice_le z _ _) hz,fin⟩)
  | int j uj=>exact wpAny_getItem_str_slice (l:=some (i,ui)) (u:=some (j,uj)) (st:=none) hs rfl (post_val_or_str ⟨ja (Txt.slice_le z _ _) hz,fin⟩)
theorem vI:∀{bs:List Bool}{us:Af},Vals (bs.map V.bl) us->us=bs.map Value.bool
 | [],us,r=>by rw [List.map_nil] at r;cases r;rfl
 | b::bs,us,r=>by
  rw [yu] at r
  cases r with
  | cons r1 r2 =>
   have e:_=Value.bool b:=r1
   rw [yu,<-vI r2,e]
theorem dJ:∀{ys:Ad}{us:Af},Vals (ys.map V.str) us->StrsAre us ys
 | [],us,r=>by rw [List.map_nil] at r;cases r;exact .nil
 | y::ys,us,r=>by
  rw [yu] at r
  cases r with
  | cons r1 r2 =>
   obtain ⟨t,e⟩:=r1
   subst e
   exact .cons y t (dJ r2)
def Mh (hc:X.calm=true):bQ X (.builtin "all") (λxs H Q=>∃(a:Addr) (bs:List Bool),xs=[.ref a]/\aQ X.K H a (bs.map V.bl)/\Q (.bl (bs.all id)) H):=by
 intro pins s U H xs us Q I r h
 obtain ⟨a,bs,rfl,hl,q⟩:=h
 obtain ⟨u,rfl,ru⟩:=iu r
 cases ru
 obtain ⟨its,rv,pl,hz⟩:=I.list hl
 have e:=vI rv
 subst e
 refine call_all_walk (wpAny_pyIter_list pl.isList ?_)
 have hh:X.A.in1.handled=none:=I.ok.hd hc
 have bj:a<s.heap.objs.size:=by
  obtain ⟨o,e,_⟩:=pl.isList
  exact yA e
 have mw:a≠s.heap.objs.size:=jb bj
 refine ⟨s.heap.objs.size,_,_,_,_,_,λi=>(bs[i]?).getD true,rfl,Walks.list hh s.heap.objs.size a mw (bs.map Value.bool).toArray,⟨⟨_,yW _ rfl,rfl,rfl⟩,pl.isList.at λo e=>yh _ e⟩,?_,λh' tk kk=>?_⟩
 ·intro i v s' Q' E' hp hq
  have hp':(bs.map Value.bool)[i]?=some v:=by simpa using hp
  rw [yM] at hp'
  cases eb:bs[i]? with
  | none=>rw [eb] at hp';cases hp'
  | some b =>
   rw [eb] at hp'
   have:Value.bool b=v:=Option.some.inj hp'
   subst this
   refine gg ?_
   dsimp only at hq
   rw [eb] at hq
   exact hq
 ·have e1:(List.range (bs.map Value.bool).toArray.size).all (λi=>(bs[i]?).getD true)=bs.all id:=by
   rw [yQ,yI]
   rw [Bool.eq_iff_iff,List.all_eq_true,List.all_eq_true]
   constructor
   ·intro hh b hb
    obtain ⟨i,hi,e⟩:=List.getElem_of_mem hb
    have:=hh i (gj.mpr hi)
    rw [yx hi,e] at this
    exact this
   ·intro hh i hi
    have i9:=gj.mp hi
    rw [yx i9]
    exact hh _ (wV i9)
  rw [e1]
  refine ⟨.bl (bs.all id),H,?_,rfl,q⟩
  exact I.kept (t':=tk) λb o e=>kk b o (λz=>by
   have z':b=s.heap.objs.size:=by simpa using z
   exact absurd (yA e) (by rw [z'];exact Nat.lt_irrefl _)) (yh _ e)
def Mj:bh X (compareOp .In) (λx y H Q=>∃(c:Nat) (z:Str),x=.str ⟨#[c]⟩/\y=.str z/\Q (.bl (decide (c∈z.cps.toList))) H):=by
 intro pins s U H x y v u Q I rx ry h
 obtain ⟨c,z,rfl,rfl,q⟩:=h
 refine Kt pins s U H _ _ v u Q I rx ry ⟨_,_,rfl,rfl,?_⟩
 rw [StrLaws.found_one]
 exact q
end
section
variable {κ:Type} [DecidableEq κ]
def dj (kvs:List (κ×V)) (k:κ):Option V:=(kvs.find? λkv=>decide (kv.1=k)).map (·.2)
def putK (kvs:List (κ×V)) (k:κ) (v:V):List (κ×V) :=
 if (kvs.any λkv=>decide (kv.1=k))=true then kvs.map (λkv=>if kv.1=k then (kv.1,v) else kv) else kvs++[(k,v)]
def rX {p:κ×V}{r:List (κ×V)}{k:κ}(e:p.1=k):dj (p::r) k=some p.2:=by simp [dj,List.find?_cons,e]
def rY {p:κ×V}{r:List (κ×V)}{k:κ}(e:¬p.1=k):dj (p::r) k=dj r k:=by simp [dj,List.find?_cons,e]
theorem Dp (k:κ):∀kvs:List (κ×V),(kvs.any λkv=>decide (kv.1=k))=(dj kvs k).isSome
 | []=>rfl
 | p::r=>by
  rw [List.any_cons]
  by_cases e:p.1=k
  ·simp only [rX e,wc e,Bool.true_or,Option.isSome_some]
  ·rw [rY e,jU e,Bool.false_or];exact Dp k r
theorem vJ (kvs:List (κ×V)) (k:κ) (v:V):(putK kvs k v).length<=kvs.length+1:=by
 unfold putK
 split
 ·rw [yI];omega
 ·rw [h_,jP,List.length_nil];omega
def cz.isSome_eq {o:Option V}{u:Option Value}(r:cz o u):o.isSome=u.isSome:=by
 cases o with
 | none=>cases u with
  | none=>rfl
  | some _=>exact (show False from r).elim
 | some _=>cases u with
  | none=>exact (show False from r).elim
  | some _=>rfl
def KV.val {kvs:List (κ×V)}{vs:List (κ×Value)}(r:KV kvs vs) (k:κ):cz (dj kvs k) (valueAt vs k):=by
 unfold KV at r
 induction r with
 | nil=>exact True.intro
 | @cons p q ps qs h t ih =>
  obtain ⟨h1,h2⟩:=h
  by_cases e:p.1=k
  ·have e':q.1=k:=h1.symm.trans e
   have b:valueAt (q::qs) k=some q.2:=by simp [valueAt,List.find?_cons,e']
   rw [rX e,b];exact h2
  ·have e':¬q.1=k:=λz=>e (h1.trans z)
   have b:valueAt (q::qs) k=valueAt qs k:=by simp [valueAt,List.find?_cons,e']
   rw [rY e,b];exact ih
def KV.any {kvs:List (κ×V)}{vs:List (κ×Value)}(r:KV kvs vs) (k:κ):(kvs.any λkv=>decide (kv.1=k))=vs.any λkv=>decide (kv.1=k):=by
 unfold KV at r
 induction r with
 | nil=>rfl
 | cons h t ih=>rw [List.any_cons,List.any_cons,ih,h.1]
def KV.repl {kvs:List (κ×V)}{vs:List (κ×Value)}(r:KV kvs vs) (k:κ) {y:V}{u:Value}(ry:RelV y u) :
  KV (kvs.map λkv=>if kv.1=k then (kv.1,y) else kv) (vs.map λkv=>if kv.1=k then (kv.1,u) else kv):=by
 unfold KV at r ⊢
 induction r with
 | nil=>exact .nil
 | @cons p q ps qs h t ih =>
  rw [yu,yu]
  refine .cons ?_ ih
  obtain ⟨h1,h2⟩:=h
  by_cases e:p.1=k
  ·rw [zF e,zF (h1.symm.trans e)];exact ⟨h1,ry⟩
  ·rw [zP e,zP (λz=>e (h1.trans z))];exact ⟨h1,h2⟩
def KV.put {kvs:List (κ×V)}{vs:List (κ×Value)}(r:KV kvs vs) (k:κ) {y:V}{u:Value}(ry:RelV y u):KV (putK kvs k y) (stored vs k u):=by
 unfold putK stored
 rw [r.any k]
 by_cases e:(vs.any λkv=>decide (kv.1=k))=true
 ·rw [zF e,zF e];exact r.repl k ry
 ·rw [zP e,zP e];exact Paired.snoc r ⟨rfl,ry⟩
def KV.keys {kvs:List (κ×V)}{vs:List (κ×Value)}(r:KV kvs vs):kvs.map (·.1)=vs.map (·.1):=by
 unfold KV at r
 induction r with
 | nil=>rfl
 | cons h t ih=>rw [yu,yu,ih,h.1]
def KV.length {kvs:List (κ×V)}{vs:List (κ×Value)}(r:KV kvs vs):kvs.length=vs.length:=Paired.length r
end
def og {P:Program}{w:World}{k:Key}{u:Value}(r:RelV (kV k) u):(aY P w).is k u=true:=by
 cases k with
 | inl i=>obtain ⟨t,e⟩:=(show ∃t,u=Value.int i t from r);subst e;exact Jh P w i t
 | inr x=>obtain ⟨t,e⟩:=(show ∃t,u=Value.str x t from r);subst e;exact Ji P w x t
theorem vK {P:Program}{w:World}:∀{ks:List Key}{us:Af},Vals (ks.map kV) us->ItemsAre (aY P w) ks us
 | [],_,r=>by rw [List.map_nil] at r;cases r;exact .nil
 | k::ks,_,r=>by
  rw [yu] at r
  cases r with
  | cons h t=>exact .cons (og h) (vK t)
abbrev KT (H:Hp):List (List Key×V)->List (List Key×Addr×Value)->Prop:=Paired λp q=>p.1=q.1/\H q.2.1=some (.tup (p.1.map kV))/\RelV p.2 q.2.2
def KT.val {H:Hp}{kvs:List (List Key×V)}{xs:List (List Key×Addr×Value)}(r:KT H kvs xs) (k:List Key):cz (dj kvs k) ((atKey xs k).map (·.2)):=by
 induction r with
 | nil=>exact True.intro
 | @cons p q ps qs h t ih =>
  obtain ⟨h1,_,h2⟩:=h
  by_cases e:p.1=k
  ·have e':q.1=k:=h1.symm.trans e
   have b:atKey (q::qs) k=some q.2:=by simp [atKey,List.find?_cons,e']
   rw [rX e,b];exact h2
  ·have e':¬q.1=k:=λz=>e (h1.trans z)
   have b:atKey (q::qs) k=atKey qs k:=by simp [atKey,List.find?_cons,e']
   rw [rY e,b];exact ih
def KT.repl {H:Hp}{kvs:List (List Key×V)}{xs:List (List Key×Addr×Value)}(r:KT H kvs xs) (k:List Key) {y:V}{u:Value}(ry:RelV y u) :
  KT H (kvs.map λkv=>if kv.1=k then (kv.1,y) else kv) (xs.map (putAt k u)):=by
 induction r with
 | nil=>exact .nil
 | @cons p q ps qs h t ih =>
  rw [yu,yu]
  refine .cons ?_ ih
  obtain ⟨h1,h2,h3⟩:=h
  unfold putAt
  by_cases e:p.1=k
  ·rw [zF e,zF (h1.symm.trans e)];exact ⟨h1,h2,ry⟩
  ·rw [zP e,zP (λz=>e (h1.trans z))];exact ⟨h1,h2,h3⟩
def KT.put {H:Hp}{kvs:List (List Key×V)}{xs:List (List Key×Addr×Value)}(r:KT H kvs xs) (k:List Key) {b:Addr}{y:V}{u:Value}(hb:H b=some (.tup (k.map kV))) (ry:RelV y u) :
  KT H (putK kvs k y) (storedH xs k b u):=by
 have e:(kvs.any λkv=>decide (kv.1=k))=(atKey xs k).isSome:=by
  rw [Dp,(r.val k).isSome_eq,Option.isSome_map]
 unfold putK storedH
 rw [e]
 by_cases q:(atKey xs k).isSome=true
 ·rw [zF q,zF q];exact r.repl k ry
 ·rw [zP q,zP q];exact Paired.snoc r ⟨rfl,hb,ry⟩
def KT.keeps {H H':Hp}{kvs:List (List Key×V)}{xs:List (List Key×Addr×Value)}(r:KT H kvs xs) (ht:∀b ys,H b=some (.tup ys)->H' b=some (.tup ys)):KT H' kvs xs :=
 Paired.mapP r λ_ _ z=>⟨z.1,ht _ _ z.2.1,z.2.2⟩
section
variable {P:Program}{w:World}{H:Hp}{h:Heap}{a:Addr}
def Dq {u:HO}(ok:cf P w H h) (e:Rd H a u):aR P w H h a u:=e.ok ok
def ww {kvs:List (Key×V)}(ok:cf P w H h) (e:Rd H a (.dK kvs)):kvs.length<=sizeLine/\(a==sysModules)=false/\∃vs,KV kvs vs/\h.DictOf (aY P w) a vs :=
 show aR P w H h a (.dK kvs) from Dq ok e
def vL {kvs:List (Key×V)}(ok:cf P w H h) (e:H a=some (.dK kvs)):kvs.length<=sizeLine/\(a==sysModules)=false/\∃vs,KV kvs vs/\h.DictOf (aY P w) a vs:=ww ok (.inl e)
def pV {ks:List Key}(ok:cf P w H h) (e:H a=some (.tup (ks.map kV))):(tupleKind (aY P w)).is h ks a:=by
 obtain ⟨_,its,r,o,h1,h2,n,h3⟩:=(show aR P w H h a (.tup (ks.map kV)) from ok a _ e)
 exact ⟨o,its.toArray,n,h1,h2,h3,by simpa using vK r⟩
def pW {kvs:List (List Key×V)}(ok:cf P w H h) (e:Rd H a (.dT kvs)):kvs.length<=sizeLine/\(a==sysModules)=false /\
  ∃xs,KT H kvs xs/\h.DictOfH (tupleKind (aY P w)) a xs:=by
 obtain ⟨z,y,xs,r,o,es,ep,h1,h2,h3,h4,h5⟩:=(show aR P w H h a (.dT kvs) from Dq ok e)
 refine ⟨z,y,xs,r,o,es,ep,h1,h2,h3,h4,λx hx=>?_,h5⟩
 have all:∀{l:List (List Key×V)} {m:List (List Key×Addr×Value)},KT H l m->∀x∈m,(tupleKind (aY P w)).is h x.1 x.2.1:=by
  intro l m q
  induction q with
  | nil=>intro x hx;exact nomatch hx
  | @cons p q ps qs hq t ih =>
   intro x hx
   rcases yC.mp hx with e|hx
   ·subst e
    exact pV ok (by rw [<-hq.1];exact hq.2.1)
   ·exact ih x hx
 exact all r x hx
def Ml {kvs:List (List Key×V)}(ok:cf P w H h) (e:H a=some (.dT kvs)):kvs.length<=sizeLine/\(a==sysModules)=false /\
  ∃xs,KT H kvs xs/\h.DictOfH (tupleKind (aY P w)) a xs:=pW ok (.inl e)
end
def dS (H:Hp) (a:Addr) (y:V) (r:Option V):Prop :=
 (∃kvs k,Rd H a (.dK kvs)/\y=kV k/\r=dj kvs k)\/∃kvs k b,Rd H a (.dT kvs)/\y=.ref b/\H b=some (.tup (k.map kV))/\r=dj kvs k
def eP (H:Hp) (a:Addr) (y v:V) (H':Hp):Prop :=
 (∃kvs k,H a=some (.dK kvs)/\y=kV k/\kvs.length<sizeLine/\H'=upd H a (.dK (putK kvs k v))) \/
 ∃kvs k b,H a=some (.dT kvs)/\y=.ref b/\H b=some (.tup (k.map kV))/\kvs.length<sizeLine/\H'=upd H a (.dT (putK kvs k v))
def dS.k {H:Hp}{a:Addr}{kvs:List (Key×V)}{k:Key}(e:H a=some (.dK kvs)):dS H a (kV k) (dj kvs k):=.inl ⟨kvs,k,.inl e,rfl,rfl⟩
def dS.t {H:Hp}{a b:Addr}{kvs:List (List Key×V)}{k:List Key}(e:H a=some (.dT kvs)) (eb:H b=some (.tup (k.map kV))):dS H a (.ref b) (dj kvs k):=.inr ⟨kvs,k,b,.inl e,rfl,eb,rfl⟩
def eP.k {H:Hp}{a:Addr}{kvs:List (Key×V)}{k:Key}{v:V}(e:H a=some (.dK kvs)) (hl:kvs.length<sizeLine):eP H a (kV k) v (upd H a (.dK (putK kvs k v))):=.inl ⟨kvs,k,e,rfl,hl,rfl⟩
def eP.t {H:Hp}{a b:Addr}{kvs:List (List Key×V)}{k:List Key}{v:V}(e:H a=some (.dT kvs)) (eb:H b=some (.tup (k.map kV))) (hl:kvs.length<sizeLine) :
  eP H a (.ref b) v (upd H a (.dT (putK kvs k v))):=.inr ⟨kvs,k,b,e,rfl,eb,hl,rfl⟩
section
variable {X:Cx}{pins:Ac}{U:St}{H:Hp}{s:Shared}{a:Addr}{y v:V}{u r:Value}{o:Option V}{A:Around}{E:Aa}
def Inv.big (I:Inv X pins U H s):sysModules<s.heap.objs.size:=by
 have h:mainGlobals<s.heap.objs.size:=(I.mod.glob.keeps I.bk).lt
 exact Nat.lt_trans (by decide) h
def Mm {Q:Aa}(hu:A.units+1<cLine) (I:Inv X pins U H s) (g:dS H a y (some v)) (ry:RelV y u) (h:∀w' s',Inv X pins U H s'->RelV v w'->Q w' s') :
  wpAny (model X.prog X.w) A (getItem (.ref a) u) Q E s:=by
 rcases g with ⟨kvs,k,e,ey,l⟩|⟨kvs,k,b,e,ey,eb,l⟩
 ·subst ey
  obtain ⟨z,hd,vs,rel,dd⟩:=ww I.hok e
  obtain ⟨w',hw,dy⟩:=cz.some_of (v:=v) (o:=valueAt vs k) (by rw [l];exact rel.val k)
  exact wpAny_getItem_of (og ry) dd.mapOf hw (h w' _ (I.tok _) dy)
 ·subst ey
  cases (show u=Value.ref b from ry)
  obtain ⟨z,hd,xs,rel,dd⟩:=pW I.hok e
  obtain ⟨w',hw,dy⟩:=cz.some_of (v:=v) (o:=(atKey xs k).map (·.2)) (by rw [l];exact rel.val k)
  obtain ⟨p,hp,i_⟩:=Option.map_eq_some_iff.mp hw
  refine wpAny_getItem_heap (tupleKind_room_in1 hu) (pV I.hok eb) dd hp ?_
  rw [i_]
  exact h w' _ (I.tok _) dy
def Mn {Q:Aa}(hu:A.units+1<cLine) (I:Inv X pins U H s) (g:dS H a y o) (ry:RelV y u) (h:∀s',Inv X pins U H s'->Q (.bool o.isSome) s') :
  wpAny (model X.prog X.w) A (compareOp .In u (.ref a)) Q E s:=by
 rcases g with ⟨kvs,k,e,ey,l⟩|⟨kvs,k,b,e,ey,eb,l⟩
 ·subst ey
  obtain ⟨z,hd,vs,rel,dd⟩:=ww I.hok e
  refine wpAny_in_of (og ry) hd dd.mapOf ?_
  rw [<-(rel.val k).isSome_eq,<-l]
  exact h _ (I.tok _)
 ·subst ey
  cases (show u=Value.ref b from ry)
  obtain ⟨z,hd,xs,rel,dd⟩:=pW I.hok e
  refine wpAny_in_heap (tupleKind_room_in1 hu) (pV I.hok eb) hd dd ?_
  have q:=(rel.val k).isSome_eq
  rw [Option.isSome_map] at q
  rw [<-q,<-l]
  exact h _ (I.tok _)
def Mp {Q:Aa}(hu:A.units+1<cLine) (I:Inv X pins U H s) (g:dS H a y o) (ry:RelV y u) (h:∀s',Inv X pins U H s'->Q (.bool (!o.isSome)) s') :
  wpAny (model X.prog X.w) A (compareOp .NotIn u (.ref a)) Q E s:=by
 rcases g with ⟨kvs,k,e,ey,l⟩|⟨kvs,k,b,e,ey,eb,l⟩
 ·subst ey
  obtain ⟨z,hd,vs,rel,dd⟩:=ww I.hok e
  refine wpAny_notIn_of (og ry) hd dd.mapOf ?_
  rw [<-(rel.val k).isSome_eq,<-l]
  exact h _ (I.tok _)
 ·subst ey
  cases (show u=Value.ref b from ry)
  obtain ⟨z,hd,xs,rel,dd⟩:=pW I.hok e
  refine wpAny_notIn_heap (tupleKind_room_in1 hu) (pV I.hok eb) hd dd ?_
  have q:=(rel.val k).isSome_eq
  rw [Option.isSome_map] at q
  rw [<-q,<-l]
  exact h _ (I.tok _)
def rZ {h':Heap}{t':Nat}{ob:HO}(I:Inv X pins U H s) (mu:pe (H a)) (hs:Heap.SameBut a s.heap h') (he:∃q,h'.get? a=some q) (new:aR X.prog X.w (upd H a ob) h' a ob) :
  Inv X pins U (upd H a ob) { s with heap:=h',toks:=t' } :=
 I.write (x:=a) (e:=a) mu (.inl rfl) (λb q hb z=>(hs.2 b hb).trans z) he new
def Dr {P:Program}{w:World}{H':Hp}{h':Heap}{kvs:List (Key×V)}{vs:List (Key×Value)}(z:kvs.length<=sizeLine) (hd:(a==sysModules)=false) (rel:KV kvs vs) (dd:h'.DictOf (aY P w) a vs) :
  aR P w H' h' a (.dK kvs):=⟨z,hd,vs,rel,dd⟩
theorem Ds {H':Hp}{Q:Unit->Shared->Prop}(hu:A.units+1<cLine) (I:Inv X pins U H s) (g:eP H a y v H') (ry:RelV y u) (rv:RelV v r) (h:∀s',Inv X pins U H' s'->Q () s') :
  wpAny (model X.prog X.w) A (setItem (.ref a) u r) Q E s:=by
 rcases g with ⟨kvs,k,e,ey,l,eH⟩|⟨kvs,k,b,e,ey,eb,l,eH⟩
 ·subst ey eH
  obtain ⟨z,hd,vs,rel,dd⟩:=vL I.hok e
  have hz:vs.length<=sizeLine:=by rw [<-rel.length];exact z
  have hl:(putK kvs k v).length<=sizeLine:=by have:=vJ kvs k v;omega
  refine wpAny_setItem_pairs (hsz:=hz) (og ry) dd λh' iA hs=>h _ ?_
  have he:∃q,h'.get? a=some q:=let ⟨q,_,_,hq,_⟩:=iA;⟨q,hq⟩
  exact rZ I (by rw [e];exact True.intro) hs he (Dr hl hd (rel.put k rv) iA)
 ·subst ey eH
  cases (show u=Value.ref b from ry)
  obtain ⟨z,hd,xs,rel,dd⟩:=Ml I.hok e
  have hz:xs.length<=sizeLine:=by rw [<-Paired.length rel];exact z
  have hl:(putK kvs k v).length<=sizeLine:=by have:=vJ kvs k v;omega
  refine wpAny_setItem_heap (hsz:=hz) (tupleKind_room_in1 hu) (pV I.hok eb) dd λh' iA hs=>h _ ?_
  obtain ⟨q,es,ep,hq,h2,h3,h4,_,h5⟩:=iA
  refine rZ I (by rw [e];exact True.intro) hs ⟨q,hq⟩ ⟨hl,hd,_,(rel.put k eb rv).keeps λc ys ec=>?_,q,es,ep,hq,h2,h3,h4,h5⟩
  rw [yE (Jj ec e (λz=>nomatch z))]
  exact ec
end
section
variable {X:Cx}{pins:Ac}{U:St}{H:Hp}{s:Shared}{a:Addr}{kvs:List (Key×V)}{k:Key}{u:Value}{A:Around}{E:Aa}
theorem Mq {Q:Aa} (I:Inv X pins U H s) (e:Rd H a (.dK kvs)) (h:∀t s',Inv X pins U H s'->Q (.int kvs.length t) s'):wpAny (model X.prog X.w) A (call (.builtin "len") [.ref a]) Q E s:=by
 obtain ⟨z,hd,vs,rel,dd⟩:=ww I.hok e
 refine call_len_dict hd dd (by rw [<-rel.length];rw [sizeLine_eq] at z;omega) ?_
 rw [<-rel.length]
 exact h _ _ (I.tok _)
end
def Mr {X:Cx} {pins:Ac} {U:St} {H:Hp} {s:Shared} {a:Addr} {y:V} {o:Option V} (I:Inv X pins U H s) (g:dS H a y o):s.TypeIs (.ref a) "dict" := by
 rcases g with ⟨kvs,k,e,_,_⟩|⟨kvs,k,b,e,_,_,_⟩
 ·obtain ⟨_,_,vs,_,dd⟩:=ww I.hok e
  exact dd.typeIs
 ·obtain ⟨_,_,xs,_,dd⟩:=pW I.hok e
  exact dd.typeIs
def Ms (td ty tv:TE):TS:=λD U H=>tv U H λv H1=>td U H1 λx H2=>ty U H2 λy H3=>∃a H4,x=.ref a/\eP H3 a y v H4/\D.nx U H4
section
variable {X:Cx}{o i e value:Expr}{pos pos' CB:Pos}{td ty tv:TE}
def Mt (hu:X.A.units+1<cLine) (ho:PE X o td) (hi:PE X i ty) (hv:PE X value tv) (hs:swapsWith value (some (.Subscript o i pos')) pos.line X.env=pure false) :
  PS X (.Assign [.Subscript o i pos'] value pos) (Ms td ty tv):=by
 intro pins s U H D I h
 refine wpAny_Assign_Subscript (aP (hv pins s U H _ I h) λr s1 ⟨v,H1,I1,rv,q1⟩=>aP (ho pins s1 U H1 _ I1 q1) λu s2 ⟨x,H2,I2,rx,q2⟩=>aP (hi pins s2 U H2 _ I2 q2) λiv s3 ⟨y,H3,I3,ry,a,H4,ex,g,q3⟩=>?_) hs
 subst ex
 obtain rfl:u=Value.ref a:=rx
 exact Ds hu I3 g ry rv λs4 I4=>⟨U,H4,I4,q3⟩
end
def Dt {P:Program} {w:World} {H:Hp} (h:Heap) (hb:sysModules<h.objs.size):aR P w H (h.push { cls:=.type "dict", data:=.dict #[] }) h.objs.size (.dK []) :=
 ⟨jB _,beq_eq_false_iff_ne.mpr (yT (jb hb)),[],.nil,Heap.DictOf.new h⟩
def Mu:TE:=λ_ H Q=>∀p,H p=none->Q (.ref p) (upd H p (.dK []))
section
variable {X:Cx}{pos:Pos}
def Mv:PE X (.Dict [] [] pos) Mu:=λpins s U H Q I h =>
 wpAny_Dict_empty ⟨.ref s.heap.objs.size,_,I.laid (a:=s.heap.objs.size) (o:=.dK []) (t':=s.toks) (λ_ _ q=>yh _ q) (ym _) (Dt s.heap I.big),rfl,h _ (I.hok.fresh (ym _))⟩
end
def r8:List (TE×TE)->St->Hp->(List (V×V)->Hp->Prop)->Prop
 | [],_,H,Q=>Q [] H
 | (tk,tv)::r,U,H,Q=>tk U H λx H1=>tv U H1 λy H2=>r8 r U H2 λps H3=>Q ((x,y)::ps) H3
abbrev VV:List (V×V)->List (Value×Value)->Prop:=Paired λp q=>RelV p.1 q.1/\RelV p.2 q.2
def pX (X:Cx) (pos:Pos) (keys:List (Option Expr)) (values:List Expr) (trs:List (TE×TE)):Prop :=
 ∀(pins:Ac) (s:Shared) (U:St) (H:Hp) (Q:List (V×V)->Hp->Prop),Inv X pins U H s->r8 trs U H Q ->
  wpAny (model X.prog X.w) X.A (evalPairs (pairTrees keys values X.env pos)) (λvs s'=>∃ps H',Inv X pins U H' s'/\VV ps vs/\Q ps H') X.xe s
def Mw {X:Cx}{pos:Pos}:pX X pos [] [] []:=λpins s U H Q I h=>pairTrees_nil_walk ⟨[],H,I,.nil,h⟩
def Mx {X:Cx}{pos:Pos}{k v:Expr}{ks:List (Option Expr)}{vs:List Expr}{tk tv:TE}{trs:List (TE×TE)}(hk:PE X k tk) (hv:PE X v tv) (hr:pX X pos ks vs trs) :
  pX X pos (some k::ks) (v::vs) ((tk,tv)::trs):=λpins s U H Q I h =>
 pairTrees_cons_walk (aP (hk pins s U H _ I h) λu s1 ⟨x,H1,I1,rx,q1⟩=>aP (hv pins s1 U H1 _ I1 q1) λw2 s2 ⟨y,H2,I2,ry,q2⟩ =>
  aP (hr pins s2 U H2 _ I2 q2) λws s3 ⟨ps,H3,I3,rel,q3⟩=>⟨(x,y)::ps,H3,I3,.cons ⟨rx,ry⟩ rel,q3⟩)
def eA (kvs more:List (Key×V)):List (Key×V):=more.foldl (λacc kv=>putK acc kv.1 kv.2) kvs
def KV.merge:∀{more:List (Key×V)}{rs:List (Key×Value)}{kvs:List (Key×V)}{vs:List (Key×Value)},KV more rs->KV kvs vs->KV (eA kvs more) (merged vs rs):=by
 intro more rs kvs vs r
 unfold KV at r
 induction r generalizing kvs vs with
 | nil=>intro q;exact q
 | @cons p q ps qs h t ih =>
  intro r0
  have e:KV (putK kvs p.1 p.2) (stored vs q.1 q.2):=by
   have:=r0.put p.1 h.2
   rw [<-h.1];exact this
  exact ih e
theorem Du:∀(more kvs:List (Key×V)),(eA kvs more).length<=kvs.length+more.length
 | [],kvs=>by show kvs.length<=kvs.length+0;omega
 | p::r,kvs=>by
  have h1:=Du r (putK kvs p.1 p.2)
  have h2:=vJ kvs p.1 p.2
  show (eA (putK kvs p.1 p.2) r).length<=_
  rw [jP];omega
theorem Dv {P:Program}{w:World}:∀{kvs:List (Key×V)}{ws:List (Value×Value)},VV (kvs.map λkv=>(kV kv.1,kv.2)) ws->∃rs,Carries (aY P w) ws rs/\KV kvs rs
 | [],_,r=>by rw [List.map_nil] at r;cases r;exact ⟨[],True.intro,.nil⟩
 | p::kvs,_,r=>by
  rw [yu] at r
  cases r with
  | @cons a b as bs h t =>
   obtain ⟨rs,c,q⟩:=Dv (P:=P) (w:=w) t
   obtain ⟨b1,b2⟩:=b
   exact ⟨(p.1,b2)::rs,⟨og h.1,rfl,c⟩,.cons ⟨rfl,h.2⟩ q⟩
def My (trs:List (TE×TE)):TE:=λU H Q=>∀p,H p=none->r8 trs U (upd H p (.dK [])) λps H2=>H2 p=some (.dK [])/\∃kvs:List (Key×V),ps=kvs.map (λkv=>(kV kv.1,kv.2))/\kvs.length<=15/\Q (.ref p) (upd H2 p (.dK (eA [] kvs)))
theorem Mz {X:Cx}{pos:Pos}{keys:List (Option Expr)}{values:List Expr}{trs:List (TE×TE)}(h:pX X pos keys values trs) (fB:keys.all (·.isSome)=true) (hl:keys.length=values.length) (h0:keys≠[])
  (vM:keys.length<=15):PE X (.Dict keys values pos) (My trs):=by
 intro pins s U H Q I q
 have hn:=I.hok.fresh (ym s.heap.objs.size)
 have I1:=I.laid (a:=s.heap.objs.size) (o:=.dK []) (h':=s.heap.push { cls:=.type "dict", data:=.dict #[] }) (t':=s.toks) (λ_ _ q=>yh _ q) (ym _) (Dt s.heap I.big)
 refine wpAny_Dict_walk (knd:=aY X.prog X.w) fB hl h0 vM (aP (h pins _ U _ _ I1 (q _ hn)) λws s2 ⟨ps,H2,I2,rel,e,kvs,ep,lk,q2⟩=>?_)
 subst ep
 obtain ⟨rs,c,rk⟩:=Dv (P:=X.prog) (w:=X.w) rel
 obtain ⟨z,hd,oh,r0,dd⟩:=vL I2.hok e
 cases r0
 refine ⟨rs,c,dd,λh' iA hs=>⟨.ref s.heap.objs.size,_,?_,rfl,q2⟩⟩
 have hz:(eA [] kvs).length<=sizeLine:=by
  have h1:=Du kvs []
  rw [List.length_nil] at h1
  rw [sizeLine_eq];omega
 have he:∃q,h'.get? s.heap.objs.size=some q:=let ⟨q,_,_,hq,_⟩:=iA;⟨q,hq⟩
 exact rZ I2 (by rw [e];exact True.intro) hs he (Dr hz hd (rk.merge .nil) iA)
structure M1 (X:Cx) (o:Expr) (m:Str) (apos:Pos) (e:Expr) (a7:Pos):Prop where
 base:attributeBase o m X.env (eval o X.env)=eval o X.env
 few:((backTo a7 (starEach [e] X.env)).all (λx=>!x.1)&&(backToKw a7 (keywordEach [] X.env)).all (λx=>x.1.isSome)
  && decide (([e]:List Expr).length+([]:List Keyword).length+(if ([]:List Keyword).isEmpty then 0 else 1)<30))=true
 line:(apos.endLine==a7.line)=true
 trees:backTo a7 (starEach [e] X.env)=[(false,eval e X.env)]
structure M2 (X:Cx) (o:Expr) (m:Str) (apos:Pos) (e f:Expr) (a7:Pos):Prop where
 base:attributeBase o m X.env (eval o X.env)=eval o X.env
 few:((backTo a7 (starEach [e,f] X.env)).all (λx=>!x.1)&&(backToKw a7 (keywordEach [] X.env)).all (λx=>x.1.isSome)
  && decide (([e,f]:List Expr).length+([]:List Keyword).length+(if ([]:List Keyword).isEmpty then 0 else 1)<30))=true
 line:(apos.endLine==a7.line)=true
 trees:backTo a7 (starEach [e,f] X.env)=[(false,eval e X.env),(false,eval f X.env)]
section
variable {X:Cx}{pins:Ac}{U:St}{H:Hp}{s:Shared}{a:Addr}{y d:V}{u r:Value}{o:Option V}{A:Around}{E:Aa}
end
section
variable {X:Cx}{o e f:Expr}{apos a7:Pos}{td ty tx:TE}
end
section
variable {X:Cx}{pins:Ac}{U:St}{H:Hp}{s:Shared}{a:Addr}{kvs:List (Key×V)}{A:Around}{E:Aa}
end
section
variable {X:Cx}{pins:Ac}{U:St}{H:Hp}{s:Shared}{a:Addr}{y:V}{u:Value}{A:Around}{E:Aa}
end
def XO (h:Heap) (a:Addr) (C:Value) (d:Option Addr) (head:Value):Prop :=
 ∃oe vs,h.get? a=some oe/\oe.cls=C/\oe.dict=d/\oe.data=.fields vs/\vs.size=6/\vs[1]?=some head
def TB (h:Heap) (T:Addr) (fl:Value):Prop:=∃oT ts,h.get? T=some oT/\oT.data=.fields ts/\ts[3]?=some fl
def MB (o:Obj) (f):(o.mapFields f).dict=o.dict:=by
 obtain ⟨c,d,dt,sl⟩:=o
 cases dt<;>rfl
def XO.keeps {h h':Heap}{a:Addr}{C:Value}{d:Option Addr}{head:Value}(x:XO h a C d head) (k:∀o,h.get? a=some o->h'.get? a=some o):XO h' a C d head:=by
 obtain ⟨oe,vs,e,r⟩:=x
 exact ⟨oe,vs,k _ e,r⟩
def TB.keeps {h h':Heap}{T:Addr}{fl:Value}(x:TB h T fl) (k:∀o,h.get? T=some o->h'.get? T=some o):TB h' T fl:=by
 obtain ⟨oT,ts,e,r⟩:=x
 exact ⟨oT,ts,k _ e,r⟩
theorem XO.set1 {h:Heap}{a:Addr}{C:Value}{d:Option Addr}{head:Value}(x:XO h a C d head) (u:Value):XO (h.update a (Obj.mapFields (·.setIfInBounds 1 u))) a C d u:=by
 obtain ⟨oe,vs,e,hc,oi,hd,hz,h1⟩:=x
 have gk:=Obj.data_mapFields hd (·.setIfInBounds 1 u)
 refine ⟨_,_,Heap.get?_update_self _ e (Obj.isFreed_of_fields gk),(Obj.cls_mapFields _ _).trans hc,(MB _ _).trans oi,gk,?_,?_⟩
 ·rw [Array.size_setIfInBounds];exact hz
 ·have:1<vs.size:=by omega
  simp [this]
def TB.set3 {h:Heap}{T:Addr}{fl:Value}(x:TB h T fl) (u:Value):TB (h.update T (Obj.mapFields (·.setIfInBounds 3 u))) T u:=by
 obtain ⟨oT,ts,e,hd,h3⟩:=x
 have gk:=Obj.data_mapFields hd (·.setIfInBounds 3 u)
 refine ⟨_,_,Heap.get?_update_self _ e (Obj.isFreed_of_fields gk),gk,?_⟩
 have:3<ts.size:=(Array.getElem?_eq_some_iff.mp h3).1
 simp [this]
section
variable {M:Model}{A:Around}{E:Aa}{s:Shared}{base:Heap}{env:Env}{outer:List Env}{L a:Addr}{C:Value}{d:Option Addr}{head:Value}{Q:Unit->Shared->Prop}
theorem Dw {b2:Bool}(fC:A.frames=some (env::outer)) (hl:s.heap.FunFrames base (env::outer)) (hf:env.frame=some L) (x:XO s.heap a C d head)
  (h:∀h' T,s.heap.objs.size<=T->XO h' a C d (.ref T)->TB h' T (rawInt L)->(∀b o,b≠a->b∉dc (env::outer)->s.heap.get? b=some o->h'.get? b=some o) ->
   (∀b o,b≠a->b∈dc (env::outer)->s.heap.get? b=some o->∃sl,h'.get? b=some { o with slots:=sl })->Q () { s with heap:=h' }) :
  wpAny M A (do let fr <-frameOf env;let pl <-entryPlaceOf L b2;let tb <-EntryCells.newEntry head fr .none (rawInt L) .none pl;setField (.ref a) 1 tb) Q E s:=by
 obtain ⟨oe,vs,e,hc,oi,hd,hz,h1⟩:=id x
 have aN:a∉dc (env::outer):=λhm=>by
  obtain ⟨_,o,ho,nf⟩:=hl.mem hm
  rw [e] at ho
  cases ho
  exact nf vs hd
 refine zx (wpAny_frameOf_fun fC hl hf λg1 r9=>zx (wpAny_entryPlaceOf λpl Dx=>?_))
 unfold EntryCells.newEntry newFields
 refine zx (gf ?_ (Dx.sizeOk5 _ _ _ _ _))
 have x1:XO g1 a C d head:=⟨oe,vs,(r9.2.1 a aN).trans e,hc,oi,hd,hz,h1⟩
 generalize hob:({ cls:=.type "traceback", dict:=none,data:=.fields ([head,.ref L,.none,rawInt L,.none]++(if pl.isEmpty then List.replicate 6 Value.none else pl)).toArray }:Obj)=ob
 have x2:XO (g1.push ob) a C d head:=x1.keeps λo q=>yh _ q
 obtain ⟨VJ,fN,e2,_,_,hd2,VL,_⟩:=id x2
 refine wpAny_setField e2 hd2 (by omega) ?_
 have aT:g1.objs.size≠a:=λz=>by
  obtain ⟨_,_,q,_⟩:=x1
  have:=yA q
  rw [<-z] at this
  exact Nat.lt_irrefl _ this
 have Dy:s.heap.objs.size<=g1.objs.size:=Nat.le_of_eq r9.1.symm
 refine h _ g1.objs.size Dy (x2.set1 _) ?_ (λb o nb nf q=>?_) (λb o nb nf q=>?_)
 ·have t0:TB (g1.push ob) g1.objs.size (rawInt L):=by
   refine ⟨ob,_,yW _ (by rw [<-hob];rfl),by rw [<-hob],?_⟩
   rcases Dx with rfl|⟨_,_,_,_,_,_,_,rfl⟩<;>simp
  exact t0.keeps λo q=>(hV _ _ (yT aT)).trans q
 ·exact (hV _ _ (yT nb)).trans (yh _ ((r9.2.1 b nf).trans q))
 ·obtain ⟨sl,z⟩:=r9.2.2 b o q
  exact ⟨sl,(hV _ _ (yT nb)).trans (yh _ z)⟩
def MC (fC:A.frames=some (env::outer)) (hl:s.heap.FunFrames base (env::outer)) (hf:env.frame=some L) (x:XO s.heap a C d head)
  (ht:head=.none\/∃T0,head=.ref T0/\T0≠a/\TB s.heap T0 .none)
  (h:∀h' T,s.heap.objs.size<=T->XO h' a C d (.ref T)->TB h' T (rawInt L)->(∀b o,b≠a->.ref b≠head->b∉dc (env::outer)->s.heap.get? b=some o->h'.get? b=some o) ->
   (∀b o,b∈dc (env::outer)->s.heap.get? b=some o->∃sl,h'.get? b=some { o with slots:=sl })->Q () { s with heap:=h' }) :
  wpAny M A (noteFrame (.ref a) env) Q E s:=by
 obtain ⟨oe,vs,e,hc,oi,hd,hz,h1⟩:=id x
 have aN:a∉dc (env::outer):=λhm=>by
  obtain ⟨_,o,ho,nf⟩:=hl.mem hm
  rw [e] at ho
  cases ho
  exact nf vs hd
 unfold noteFrame
 simp only [hf]
 refine zx (jk e hd h1 ?_)
 rcases ht with rfl|⟨T0,rfl,nT,t0⟩
 ·rw [zP (by decide)]
  exact Dw fC hl hf x λh' T k1 k2 k3 k4 k5=>h h' T k1 k2 k3 (λb o nb _ nf q=>k4 b o nb nf q) λb o hb q=>k5 b o (λz=>aN (z▸hb)) hb q
 ·obtain ⟨oT,ts,eT,hdT,h3⟩:=id t0
  have TN:T0∉dc (env::outer):=λhm=>by
   obtain ⟨_,o,ho,nf⟩:=hl.mem hm
   rw [eT] at ho
   cases ho
   exact nf ts hdT
  rw [zF (show (Value.ref T0 != Value.none)=true from by simp)]
  refine zx (jk eT hdT h3 ?_)
  rw [zP (show ¬((Value.none==rawInt L)=true) from by simp [rawInt])]
  refine zx (wpAny_setField eT hdT (Array.getElem?_eq_some_iff.mp h3).1 ?_)
  have oth:∀b,b≠T0->(s.heap.update T0 (Obj.mapFields (·.setIfInBounds 3 Value.none))).get? b=s.heap.get? b:=λb hb=>hV _ _ (yT hb)
  refine Dw (s:={ s with heap:=s.heap.update T0 (Obj.mapFields (·.setIfInBounds 3 Value.none)) }) fC (hl.of_keeps λb o hb nf=>⟨o,(oth b λq=>?_).trans hb,rfl⟩) hf (x.keeps λo q=>(oth a (yT nT)).trans q) λh' T k1 k2 k3 k4 k5 =>
   h h' T (by simpa using k1) k2 k3 (λb o nb nh nf q=>k4 b o nb nf ((oth b λz=>nh (by rw [z])).trans q)) λb o hb q=>k5 b o (λz=>aN (z▸hb)) hb ((oth b λz=>TN (z▸hb)).trans q)
  rw [q,eT] at hb
  cases hb
  exact nf ts hdT
def MD {T:Addr}{fl:Value}(x:XO s.heap a C d (.ref T)) (t:TB s.heap T fl) (ne:T≠a)
  (h:∀h',XO h' a C d (.ref T)->TB h' T .none->(∀b o,b≠T->s.heap.get? b=some o->h'.get? b=some o)->h'.objs.size=s.heap.objs.size->Q () { s with heap:=h' }):wpAny M A (setFlight (.ref a) none) Q E s:=by
 obtain ⟨oe,vs,e,_,_,hd,_,h1⟩:=id x
 obtain ⟨oT,ts,eT,hdT,h3⟩:=id t
 unfold setFlight
 refine zx (jk e hd h1 ?_)
 rw [zF (show (Value.ref T != Value.none)=true from by simp)]
 refine wpAny_setField eT hdT (Array.getElem?_eq_some_iff.mp h3).1 ?_
 exact h _ (x.keeps λo q=>(hV _ _ ne).trans q) (t.set3 _) (λb o nb q=>(hV _ _ (yT nb)).trans q) (by simp)
end
def bx (X:Cx) (pins:Ac) (H:Hp) (b:Addr):Prop :=
 H b=none/\X.s₀.heap.objs.size<=b/\b≠X.env.locals/\(∀x c,X.env.cells.lookup x=some c->c≠b)/\∀p∈X.pn++pins,p.1≠b
def bx.new {X:Cx}{pins:Ac}{U:St}{H H':Hp}{s:Shared}{b:Addr}(I:Inv X pins U H s) (hb:s.heap.objs.size<=b) (hn:H' b=none):bx X pins H' b:=by
 obtain ⟨f0,f1,f2,f3,f4,f5⟩:=I.fpOk (H':=H') hb hn
 exact ⟨hn,ja I.sz hb,f1,f4,f5⟩
def se (X:Cx) (pins:Ac) (H:Hp) (h:Heap) (a C:Addr) (d:Option Addr):Prop :=
 ∃head,XO h a (.ref C) d head/\bx X pins H a/\(head=.none\/∃T,head=.ref T/\T≠a/\TB h T .none/\bx X pins H T)
def Throws (X:Cx) (E:XK):Prop:=∀(pins:Ac) (U:St) (H:Hp) (s:Shared) (a C:Addr) (d:Option Addr),Inv X pins U H s->se X pins H s.heap a C d->E (.ref C) d H->X.xe (.ref a) s
def cZ (P:Program) (w:World):fy:=λouter H s E e s'=>∃(a C T:Addr) (d:Option Addr) (H':Hp),e=.ref a/\s'.os=s.os/\AllBare s'.gens/\Un (dc outer) [] H H' s.heap s'.heap/\cf P w H' s'.heap /\
 XO s'.heap a (.ref C) d (.ref T)/\T≠a/\TB s'.heap T .none/\(s.heap.objs.size<=a/\H' a=none)/\(s.heap.objs.size<=T/\H' T=none)/\E (.ref C) d H'
def MF {X:Cx}{E:XK}(t:Throws X E):Passes (cZ X.prog X.w) X E:=by
 rintro pins U H s e s' I ⟨a,C,T,d,H',rfl,os,bare,un,hok,x,ne,tb,⟨a1,a2⟩,⟨t1,t2⟩,q⟩
 have I':Inv X pins U H' s':=I.call' (ch:=[]) os un hok bare λb z=>absurd z (by simp)
 exact t pins U H' s' a C d I' ⟨_,x,bx.new I a1 a2,.inr ⟨T,rfl,ne,tb,bx.new I t1 t2⟩⟩ q
def gG (a:Addr):Value->Ae
 | .ref T0=>[a,T0]
 | _=>[a]
def Dz (a:Addr) (v:Value):a∈gG a v:=by cases v<;>simp [gG]
def DA (a T0:Addr):T0∈gG a (.ref T0):=by simp [gG]
section
variable {X:Cx}{pins:Ac}{U:St}{H:Hp}{s:Shared}{a C:Addr}{d:Option Addr}{A:Around}{E:Aa}{Q:Unit->Shared->Prop}
def MJ (I:Inv X pins U H s) (fC:A.frames=some X.stack) (cC:X.stack=X.env::X.outer) (hf:X.env.frame=some X.env.locals) (F:se X pins H s.heap a C d)
  (h:∀s' T,Inv X pins U H s'->XO s'.heap a (.ref C) d (.ref T)->T≠a->TB s'.heap T (rawInt X.env.locals)->bx X pins H a->bx X pins H T->Q () s'):wpAny (model X.prog X.w) A (noteFrame (.ref a) X.env) Q E s:=by
 obtain ⟨head,x,oa,ht⟩:=F
 have hl:s.heap.FunFrames X.base (X.env::X.outer):=cC▸I.stack
 have DB:A.frames=some (X.env::X.outer):=fC.trans (congrArg some cC)
 have DC:dc (X.env::X.outer)=X.env.locals::X.fs:=by
  unfold dc
  rw [List.filterMap_cons,hf]
  rfl
 have iV:∀b∈X.env.locals::X.fs,H b=none:=λb hb=>I.stkFree b (by rw [cC,DC];exact hb)
 have vN:∀b u,H b=some u->Value.ref b≠head:=λb u e z=>by
  rcases ht with rfl|⟨T0,rfl,_,_,r⟩
  ·cases z
  ·cases z
   rw [r.1] at e
   cases e
 refine MC DB hl hf x (ht.imp id λ⟨T0,e1,e2,e3,_⟩=>⟨T0,e1,e2,e3⟩) λh' T k1 k2 k3 k4 k5=>?_
 rw [DC] at k4 k5
 have oT:bx X pins H T:=bx.new I k1 (I.hok.fresh k1)
 have neT:T≠a:=λz=>by
  obtain ⟨_,_,e,_⟩:=x
  have:=yA e
  rw [<-z] at this
  exact Nat.lt_irrefl _ (jO this k1)
 refine h { s with heap:=h' } T ?_ k2 neT k3 oa oT
 refine I.step (g':=s.gens) (t':=s.toks) (d':=s.drawn) (ch:=gG a head) (λb hb=>?_) (λb o n1 n2 n3 e n=>k4 b o (λz=>n3 ?_) (λz=>n3 ?_) (λz=>(yC.mp z).elim n1 n2) e)
  (λb o n1 n2 n3 e n=>k5 b o (jm _ n2) e) (λ_ _ _ _ n=>n) (λb o n3 e=>?_) (λ_ _ e=>e) (λ_ _ _ e=>e) (λb ps e=>⟨#[],by rw [e];simp⟩) (λm hm=>?_) (λb u e=>?_) I.bare
 ·have own:bx X pins H b:=by
   rcases ht with rfl|⟨T0,rfl,_,_,r⟩
   ·have z:b=a:=by simpa [gG] using hb
    rw [z];exact oa
   ·have z:b=a\/b=T0:=by simpa [gG] using hb
    rcases z with z|z
    ·rw [z];exact oa
    ·rw [z];exact r
  exact ⟨.inr own.2.1,own.2.2.1,own.2.2.2.1,own.2.2.2.2⟩
 ·rw [z]
  exact Dz a head
 ·rw [<-z]
  exact DA a b
 ·by_cases hb:b∈X.env.locals::X.fs
  ·obtain ⟨sl,z⟩:=k5 b o hb e
   exact ⟨_,z⟩
  ·exact ⟨o,k4 b o (λz=>n3 (by rw [z];exact Dz a head)) (λz=>n3 (by rw [<-z];exact DA a b)) hb e⟩
 ·obtain ⟨o,es,ep,ho,r⟩:=hm
  obtain ⟨sl,z⟩:=k5 _ o y0 ho
  exact ⟨_,es,ep,z,r⟩
 ·refine (I.hok b u e).stay (λc v hc q=>?_) (λ_ q=>q) λ_ _ q=>q
  have tr:∃u',H c=some u':=by
   rcases hc with z|z
   ·exact ⟨u,by rw [z];exact e⟩
   ·exact ⟨_,z⟩
  obtain ⟨u',eu⟩:=tr
  exact k4 c v (λz=>by rw [z,oa.1] at eu;cases eu) (vN c u' eu) (λz=>by rw [iV c z] at eu;cases eu) q
def MK {T:Addr}{fl:Value}(I:Inv X pins U H s) (x:XO s.heap a (.ref C) d (.ref T)) (ne:T≠a) (tb:TB s.heap T fl) (oa:bx X pins H a) (oT:bx X pins H T)
  (h:∀s',Inv X pins U H s'->XO s'.heap a (.ref C) d (.ref T)->TB s'.heap T .none->Q () s'):wpAny (model X.prog X.w) A (setFlight (.ref a) none) Q E s:=by
 refine MD x tb ne λh' k1 k2 k3 _=>h { s with heap:=h' } ?_ k1 k2
 exact I.turned (t':=s.toks) (it:=T) (λb o nb e=>k3 b o nb e) oT.1 oT.2.2.1 (.inr oT.2.1) oT.2.2.2.1 oT.2.2.2.2
end
section
variable {P:Program}{w:World}{K:PySem.W.Frag}{mg:Ab}{base:Heap}
def eZ.okX {x qual:Str}{st:Stmt}{f:Addr}{fd:FuncData}{N ps:Ad}{k:Nat}{sp:Sp}(F:eZ K x qual st f fd) (S:au N ps (zW st)) (len:∀vs H Q E,sp vs H Q E->vs.length=ps.length)
  (gu:∀(aU:Value) (A:Around) (outer:List Env) (s:Shared) (H:Hp) (vs:List V) (Q:VK) (E:XK),bt k (A.deeper (envOfC qual (zW st) s.heap.objs.size f aU))->sp vs H Q E ->
   ∃t,de (dY (cZ P w) P w K mg base N qual (zW st) f aU A outer s H E) (jY st) t/\t { nx:=λ_ H'=>Q .non H',rt:=Q } (start N vs) H):bG P w K mg base (cZ P w) (k+1) f fd ps sp:=by
 obtain ⟨oc,od,kV,doc,pm,an,aU,ct,fK,rfl,lk,fH⟩:=F.ex
 exact Lf lk fH S len λA outer s H vs Q E hr kO=>gu aU A outer s H vs Q E hr kO
end
end L2
namespace L2
open PySem PySem.Spec PyProof.Rows PySem.W PySem.Builtin PySem.Builtin.ObjectAttr
def kW:List Value->Bool
 | [.type a,.type b,.type c,.type d]=>a == "ValueError" && b == "Exception" && c == "BaseException" && d == "object"
 | .ref _::r=>kW r
 | _=>false
def sf (K:Frag) (C:Addr):Bool:=(clsIn K C).any λcd=>kW cd.mro
section
variable {prog:Program}{w:World}{A:Around}{E:Aa}{K:Frag}{x C:Addr}{s:Shared}{R:Result->Shared->Prop}
end
section
variable {prog:Program}{w:World}{A:Around}{h:Heap}{g:Array GenState}{d:Drawn}{t:Nat}{os:OsState}{R:Result->Shared->Prop}
variable {nm q:Str}{C N f:Addr}{bs bm ML:Af}{iR:Bool}{sn:Ad}{sub:Af}{ab:Bool}{col:Option Bool}{dd:Option Addr}{k0 k1 k2 k3 k5:Option Value}{B newId sh:String}
end
structure MM (K:PySem.W.Frag) (C:Addr) (f:Str):Prop where
 sa:PySem.W.findIn K (.ref C) "__setattr__" = some (some (.builtin "object.__setattr__"))
 line:sf K C=true
 no:PySem.W.takerIn K C f=some none
 hd:PySem.W.hasDictIn K C=true
abbrev nI:Af:=[.type "ValueError", .type "Exception", .type "BaseException", .type "object"]
structure DD (K:Frag) (C:Addr):Prop where
 ob:∃nm q N bs bm iR sn sub ab col dd k0 k1 k2 k3 k5,K.lookup C=some (excClassObj nm q C N bs bm iR sn sub ab col dd k0 k1 k2 k3 k5 "ValueError.__new__")/\tailIn K nI bm=true/\nsOkIn K N=true
 kp:keepIn K (.ref C)=true
structure Vz (K:Frag) (C f:Addr):Prop where
 ob:∃nm q N bs bm iR sn sub ab col dd k0 k1 k2 k3 k5,K.lookup C=some (excClassObj nm q C N bs bm iR sn sub ab col dd k0 k1 k2 k3 k5 "ValueError.__new__")/\tailIn K nI bm=true/\nsOkIn K N=true/\nsIn K N "__init__" = some (some (.ref f))
 fn:isFn K (.ref f)=true
 kp:keepIn K (.ref C)=true
section
variable {M:Model}{A:Around}{E:Aa}{env:Env}{s:Shared}
end
section
variable {X:Cx}{CX:fy}{k:Nat}{f C:Addr}{fd:FuncData}{ps:Ad}{sp:Sp}{E:XK}
end
def XP (X:Cx) (pins:Ac) (U:St) (E:XK) (u:Value) (s':Shared):Prop:=∃(a C:Addr) (d:Option Addr) (H':Hp),u=.ref a/\Inv X pins U H' s'/\se X pins H' s'.heap a C d/\E (.ref C) d H'
section
variable {X:Cx}{k:Nat}{f C:Addr}{fd:FuncData}{ps:Ad}{sp:Sp}{eD:List V}{ds:Af}{E:XK}{x m:Str}{p pos apos:Pos}{e o:Expr}{es:List Expr}{ta:TE}{t:TA}
end
def kX (C:Addr) (d:Option Addr) (a:Addr):HO:=.ext λ_ _ h=>∃T:Addr,XO h a (.ref C) d (.ref T)
section
variable {X:Cx}{pins:Ac}{U:St}{H:Hp}{s:Shared}{a C:Addr}{d:Option Addr}
end
section
variable {X:Cx}{pins:Ac}{U:St}{H:Hp}{s:Shared}{a C d:Addr}{fs:List (Str×V)}{A:Around}{E:Aa}
def DE (I:Inv X pins U H s) (ha:H a=some (kX C (some d) a)) (hd:H d=some (.xd fs)):∃ox od,InstAt s.heap a ox C (some od)/\∀n,∃o,lookIn n od=some o/\cz (fs.lookup n) o:=by
 obtain ⟨T,oe,vs,e,hc,oi,vO,_⟩:=(show aR X.prog X.w H s.heap a (kX C (some d) a) from I.hok a _ ha).1
 obtain ⟨mA,hn,r⟩:=(show aR X.prog X.w H s.heap d (.xd fs) from I.hok d _ hd)
 obtain ⟨od,ho,hl⟩:=Cw hn
 refine ⟨oe,od,⟨e,hc,by unfold notCls;rw [vO],by rw [oi];exact ho⟩,λn=>⟨mA n,hl n,r n⟩⟩
end
section
variable {prog:Program}{w:World}{A:Around}{E:Aa}{h:Heap}{g:Array GenState}{d:Drawn}{t:Nat}{os:OsState}
variable {nm q:Str}{C N:Addr}{bs bm ML:Af}{iR:Bool}{sn:Ad}{sub:Af}{ab:Bool}{col:Option Bool}{dd:Option Addr}{k0 k1 k2 k3 k5:Option Value}{B newId sh:String}
end
def pY (C:Addr) (Er:XK):TS:=λ_ _ H=>Er (.ref C) none H
end L2
namespace L2
open PySem PySem.Spec PyProof.Rows PySem.W
def vP (X:Cx) (pins:Ac) (H:Hp) (h:Heap) (a C:Addr) (d:Option Addr):Prop :=
 ∃T,XO h a (.ref C) d (.ref T)/\T≠a/\TB h T (rawInt X.env.locals)/\bx X pins H a/\bx X pins H T
def vQ (X:Cx) (pins:Ac) (H:Hp) (h:Heap) (a C:Addr) (d:Option Addr):Prop:=se X pins H h a C d\/vP X pins H h a C d
def iB (X:Cx) (E:XK):Prop:=∀(pins:Ac) (U:St) (H:Hp) (s:Shared) (a C:Addr) (d:Option Addr),Inv X pins U H s->vQ X pins H s.heap a C d->E (.ref C) d H->X.xe (.ref a) s
def iB.one {X:Cx}{E:XK}(t:iB X E):Throws X E:=λpins U H s a C d I F q=>t pins U H s a C d I (.inl F) q
def XA (X:Cx) (Er:XK) (e:Value) (s:Shared):Prop:=∃(pins:Ac) (U:St) (H:Hp) (a C:Addr) (d:Option Addr),e=.ref a/\Inv X pins U H s/\vQ X pins H s.heap a C d/\Er (.ref C) d H
section
variable {X:Cx}{pins:Ac}{U:St}{H:Hp}{s:Shared}{a C:Addr}{d:Option Addr}{A:Around}{E:Aa}{Q:Unit->Shared->Prop}{Er:XK}
def zQ:iB (X.wish (XA X Er)) Er:=λpins U H s a C d I F q=>⟨pins,U,H,a,C,d,rfl,I.unwish,F,q⟩
def DF (I:Inv X pins U H s) (fC:A.frames=some X.stack) (cC:X.stack=X.env::X.outer) (hf:X.env.frame=some X.env.locals) (F:vQ X pins H s.heap a C d)
  (h:∀s' T,Inv X pins U H s'->XO s'.heap a (.ref C) d (.ref T)->T≠a->TB s'.heap T (rawInt X.env.locals)->bx X pins H a->bx X pins H T->Q () s'):wpAny (model X.prog X.w) A (noteFrame (.ref a) X.env) Q E s:=by
 rcases F with F|⟨T,x,ne,tb,oa,oT⟩
 ·exact MJ I fC cC hf F h
 ·obtain ⟨oe,vs,e,_,_,hd,_,h1⟩:=id x
  obtain ⟨ot,ts,et,vO,h3⟩:=id tb
  unfold noteFrame
  simp only [hf]
  refine zx (jk e hd h1 ?_)
  rw [zF (show (Value.ref T != Value.none)=true by simp)]
  refine zx (jk et vO h3 ?_)
  rw [zF (by simp)]
  exact zZ (h s T I x ne tb oa oT)
def MN {T f:Addr}{fl:Value}(x:XO s.heap a (.ref C) d (.ref T)) (t:TB s.heap T fl) (ne:T≠a)
  (h:∀h',XO h' a (.ref C) d (.ref T)->TB h' T (rawInt f)->(∀b o,b≠T->s.heap.get? b=some o->h'.get? b=some o)->Q () { s with heap:=h' }) {M:Model}:wpAny M A (setFlight (.ref a) (some f)) Q E s:=by
 obtain ⟨oe,vs,e,_,_,hd,_,h1⟩:=id x
 obtain ⟨oT,ts,eT,hdT,h3⟩:=id t
 unfold setFlight
 refine zx (jk e hd h1 ?_)
 rw [zF (show (Value.ref T != Value.none)=true by simp)]
 refine wpAny_setField eT hdT (Array.getElem?_eq_some_iff.mp h3).1 ?_
 exact h _ (x.keeps λo q=>(hV _ _ ne).trans q) (t.set3 _) λb o nb q=>(hV _ _ (yT nb)).trans q
def jA (cC:X.stack=X.env::X.outer) (hf:X.env.frame=some X.env.locals):PassesOwn (model X.prog X.w) X.A X.env (XA X Er):=by
 rintro e s ⟨pins,U,H,a,C,d,rfl,I,F,q⟩
 unfold notedBy
 refine DF I I.ok.frames cC hf F λs2 T I2 x2 ne MP oa oT=>?_
 unfold cameBackBy
 obtain ⟨oe,vs,e2,_,_,hd,_,h1⟩:=id x2
 refine zx (jk e2 hd h1 ?_)
 rw [zP (show ¬((Value.ref T==Value.none)=true) by simp),hf]
 refine MN x2 MP ne λh' x3 vR k3=>⟨pins,U,H,a,C,d,rfl,?_,.inr ⟨T,x3,ne,vR,oa,oT⟩,q⟩
 exact I2.turned (t':=s2.toks) (it:=T) (λb o nb e=>k3 b o nb e) oT.1 oT.2.2.1 (.inr oT.2.1) oT.2.2.2.1 oT.2.2.2.2
def de.throwing {st:List Stmt}{t:TS}(h:de (X.wish (XA X Er)) st t) (ht:iB X Er):de X st t:=λpins s U H D I hw =>
 jX (h pins s U H D (I.wish _) hw) (λ_ _ q=>q.unwish) λe s' ⟨pins,U,H,a,C,d,ee,I1,F,q⟩=>ee▸ht pins U H s' a C d I1 F q
def vS (t:iB X Er):Passes (cZ X.prog X.w) X Er:=MF t.one
end
def MQ {P:Program}{w:World}{K:PySem.W.Frag}{mg:Ab}{base:Heap}{N:Ad}{qual:Str}{scope:Scope}{f:Addr}{cd:Value}{A:Around}{outer:List Env}{s:Shared}{H:Hp}{E:XK} :
  iB (dY (cZ P w) P w K mg base N qual scope f cd A outer s H E) E:=by
 intro pins U H1 s1 a C d I F q
 show wpAny (model P w) (A.deeper (envOfC qual scope s.heap.objs.size f cd)) (leaving (envOfC qual scope s.heap.objs.size f cd) (.ref a)) _ _ s1
 unfold leaving
 refine zx (DF I I.ok.frames rfl rfl F λs2 T I2 x ne tb oa oT=>MK I2 x ne tb oa oT λs3 I3 x3 vR=>?_)
 exact ⟨a,C,T,d,H1,rfl,I3.os,I3.bare,I3.base,I3.hok,x3,ne,vR,⟨oa.2.1,oa.1⟩,⟨oT.2.1,oT.1⟩,q⟩
section
variable {P:Program}{w:World}{K:PySem.W.Frag}{mg:Ab}{base:Heap}
def eZ.okT {x qual:Str}{st:Stmt}{f:Addr}{fd:FuncData}{N ps:Ad}{k:Nat}{sp:Sp}(F:eZ K x qual st f fd) (S:au N ps (zW st)) (len:∀vs H Q E,sp vs H Q E->vs.length=ps.length)
  (gu:∀(aU:Value) (A:Around) (outer:List Env) (s:Shared) (H:Hp) (vs:List V) (Q:VK) (E:XK),bt k (A.deeper (envOfC qual (zW st) s.heap.objs.size f aU))->sp vs H Q E ->
   ∃t,de ((dY (cZ P w) P w K mg base N qual (zW st) f aU A outer s H E).wish (XA (dY (cZ P w) P w K mg base N qual (zW st) f aU A outer s H E) E)) (jY st) t/\t { nx:=λ_ H'=>Q .non H',rt:=Q } (start N vs) H):bG P w K mg base (cZ P w) (k+1) f fd ps sp :=
 eZ.okX F S len λaU A outer s H vs Q E hr hs=>let ⟨t,h1,h2⟩:=gu aU A outer s H vs Q E hr hs;⟨t,de.throwing h1 MQ,h2⟩
end
end L2
namespace L2
open PySem PySem.Spec PyProof.Rows PySem.W PySem.Builtin PySem.Builtin.ObjectAttr
section
variable {prog:Program}{w:World}{A:Around}{E:Aa}{K:Frag}{x C:Addr}{s:Shared}{ox:Obj}{od:Option Obj}{name:Str}{tk:Tok}
structure iS (K:Frag) (C:Addr):Prop where
 ga:findIn K (.ref C) "__getattribute__" = some (some (.builtin "BaseException.__getattribute__"))
 hk:findIn K (.ref C) "__getattr__" = some none
 hB:mroIn K C (.type "BaseException")=some true
theorem DG {fill expr:Bool}{Q:Aa}(X:K.In s.heap) (I:InstAt s.heap x ox C od) (G:iS K C)
  (h:wpAny (model prog w) A.in1 (Builtin.«object.__getattribute__» ⟨[.ref x,.str name tk],[]⟩) (λfin s'=>∃v,fin=.done (.ret v)/\handedIn v=true/\Q v s') (λ_ _=>False) s) :
  wpAny (model prog w) A (getAttrBy (.ref x) (.str name tk) fill expr) Q E s:=by
 have L0:=I.type (M:=model prog w)
 have L1:=looks_findIn (M:=model prog w) X G.ga
 have L2:=looks_findIn (M:=model prog w) X G.hk
 have MR:Looks (model prog w) s.heap (isInstance (.ref x) (.type "BaseException")) true:=I.type.andThen (looks_mroIn X G.hB)
 unfold getAttrBy
 refine wA (zx (L0.here (zx (L1.here ?_))))
 dsimp only
 rw [zP (show ¬((onTheHeap (Value.ref C)&&Value.builtin "BaseException.__getattribute__" == Value.builtin "object.__getattribute__")=true) by
  rw [show (Value.builtin "BaseException.__getattribute__" == Value.builtin "object.__getattribute__")=false by decide +kernel,Bool.and_false];exact Bool.false_ne_true)]
 unfold getAttrByItsOwn hookBefore
 rw [zF (show onTheHeap (Value.ref C)=true from rfl)]
 refine zx (L2.here (zx (wpAny_attempt (wA ?_))))
 unfold callGetattribute
 rw [zP (show ¬((expr&&onTheHeap (Value.builtin "BaseException.__getattribute__"))=true) by cases expr<;>exact Bool.false_ne_true)]
 unfold boundAndCalled
 refine zx (wpAny_of_eq (PySem.F.excAttr_ValueError.ga.bind (.ref x)) ?_)
 refine wpAny_call (codeAny_call_builtin PySem.F.excAttr_ValueError.ga.plain PySem.F.entry_bexc_ga (@check_slot (model prog w) _ _ s "BaseException.__getattribute__" "BaseException" "__getattribute__" (.ref x) [.str name tk] [] _ (by decide +kernel) (by decide +kernel) MR (PySem.F.args_bexc_ga (.ref x) (.str name tk)) ?_))
 refine jX h (λfin s' ⟨v,ef,hv,q⟩=>?_) λ_ _ z=>z.elim
 subst ef
 show wpAny _ _ (handedOut v) _ _ _
 rw [handedOut_of hv]
 exact zZ q
def MU {v:Value}{Q:Fin->Shared->Prop}(X:K.In s.heap) (I:InstAt s.heap x ox C od) (hf:findObj K C od name=some (.value v)) (h:Q (.done (.ret v)) s) :
  wpAny (model prog w) A (Builtin.«object.__getattribute__» ⟨[.ref x,.str name tk],[]⟩) Q E s:=by
 have L0:=I.type (M:=model prog w)
 have L1:=looks_find (M:=model prog w) X I hf
 exact zx (zZ (zx (zZ (zx (L0.here (zx (L1.here (zZ h))))))))
def MV {Q:Fin->Shared->Prop} (X:K.In s.heap) (I:InstAt s.heap x ox C od) (hf:findObj K C od "__class__" = some (.bind (.builtin "getset_descriptor.__get__") (.builtin "object.__class__"))) (hm:mroIn K C (.type "object")=some true)
  (h:Q (.done (.ret (.ref C))) s):wpAny (model prog w) A (Builtin.«object.__getattribute__» ⟨[.ref x,.str "__class__" tk],[]⟩) Q E s:=by
 have L0:=I.type (M:=model prog w)
 have L1:=looks_find (M:=model prog w) X I hf
 refine zx (zZ (zx (zZ (zx (L0.here (zx (L1.here ?_)))))))
 show wpAny _ _ (holding [.builtin "object.__class__"] (call (.builtin "getset_descriptor.__get__") [.builtin "object.__class__", .ref x,.ref C]) >>= ret) _ _ _
 exact zx (wA (wpAny_call (class_get (ox:=ox) (od:=od) X I hm (zZ h))))
end
def MX {K:Frag} {x D:Addr} {ox:Obj} {od:Option Obj} (G:iS K D) (pZ:(clsIn K D).isSome=true) (hf:findObj K D od "__class__" = some (.bind (.builtin "getset_descriptor.__get__") (.builtin "object.__class__"))) (hm:mroIn K D (.type "object")=some true) :
  KitX K (.ref x) (.ref D) (λh=>InstAt h x ox D od):=by
 obtain ⟨cd,hc⟩:=Option.isSome_iff_exists.mp pZ
 unfold clsIn at hc
 split at hc
 ·rename_i c' d' VM Cd ho
  refine ⟨λ_ _ _ I=>I.type,λM h X _=>?_,λh tp dd its n sl X MY=>?_,λ{prog w A E Q s} X I k=>?_⟩
  ·intro A' Q' E' s' k q
   unfold isType loadHead
   exact zx (wpAny_loadPart (k _ _ (X _ _ ho)) (zZ q))
  ·refine Bool.eq_false_iff.mpr λq=>?_
   obtain rfl:D=tp:=Value.ref.inj (beq_iff_eq.mp q)
   have z:=(X _ _ ho).symm.trans MY
   cases z
  ·unfold getAttr? getAttrBy?
   refine zx (wpAny_mkText (zx (wpAny_attempt ?_)))
   exact DG (s:={ s with toks:=s.toks+1 }) X I G (MV (s:={ s with toks:=s.toks+1 }) X I hf hm ⟨_,rfl,rfl,zZ k⟩)
 ·cases hc
structure nJ (K:Frag) (C:Addr):Prop where
 g:iS K C
 hd:hasDictIn K C=true
 ha:findIn K (.ref C) "__class__" = some (some (.builtin "object.__class__"))
 hn:specialIn K (.builtin "object.__class__") "__get__" = some (some (.builtin "getset_descriptor.__get__"))
 tk:takesIn K (.builtin "object.__class__")=some true
 hm:mroIn K C (.type "object")=some true
section
variable {X:Cx}{pins:Ac}{U:St}{H:Hp}{s:Shared}{a C d:Addr}{fs:List (Str×V)}{A:Around}{E:Aa}
def MZ {b:Bool}{f:Str}{v:V}{Q:Aa}(I:Inv X pins U H s) (ha:H a=some (kX C (some d) a)) (hd:H d=some (.xd fs)) (g:iS X.K C) (hh:hasDictIn X.K C=true) (no:findIn X.K (.ref C) f=some none) (l:fs.lookup f=some v)
  (h:∀u s',Inv X pins U H s'->RelV v u->Q u s'):wpAny (model X.prog X.w) A (getAttr (.ref a) f b) Q E s:=by
 obtain ⟨ox,od,J,hl⟩:=DE I ha hd
 obtain ⟨o,ho,r⟩:=hl f
 rw [l] at r
 obtain ⟨u,rfl,ru⟩:=cz.some_of (v:=v) (o:=o) r
 unfold getAttr
 refine zx (wpAny_mkText ?_)
 exact DG (s:={ s with toks:=s.toks+1 }) I.kIn J g (MU (s:={ s with toks:=s.toks+1 }) I.kIn J (findObj_own hh no rfl ho) ⟨u,rfl,CA ru,h u _ (I.tok _) ru⟩)
def M0 {c:Value}{b:Bool}{Q:Aa}(I:Inv X pins U H s) (ha:H a=some (kX C (some d) a)) (hd:H d=some (.xd fs)) (k:nJ X.K C) (e:kitOne X.K (.ref C) c=some b) (h:∀tk,Q (.bool b) { s with toks:=tk }) :
  wpAny (model X.prog X.w) A (call (.builtin "isinstance") [.ref a,c]) Q E s:=by
 obtain ⟨ox,od,J,_⟩:=DE I ha hd
 have cl:(clsIn X.K C).isSome=true:=by obtain ⟨cd,hc,_⟩:=any_some k.hd;rw [hc];rfl
 exact kia_one (MX k.g cl (findObj_data cl k.ha k.hn k.tk) k.hm) I.kIn J e (λz=>nomatch z) h
end
end L2
namespace L2
open PySem PySem.Spec PyProof.Rows PySem.W
structure kY (prog:Program) (w:World) (it src:Addr) (xs:Array Value) (St:Nat->Heap->Prop):Prop where
 at_:∀{k h h'},St k h->(∀o,h.get? it=some o->h'.get? it=some o)->(∀o,h.get? src=some o->h'.get? src=some o)->St k h'
 lt:∀{k h},St k h->it<h.objs.size
 item:∀{A:Around} {E:Aa} {s:Shared} {k:Nat} {x:Value} {Q:Aa},St k s.heap->xs[k]?=some x->(∀h',St (k+1) h'->Heap.SameBut it s.heap h'->Q x { s with heap:=h' }) ->
  wpAny (model prog w) A (Builtin.SmallTypes.nextOf (.ref it)) Q E s
 stop:∀{A:Around} {E:Aa} {s:Shared} {k:Nat} {Q:Aa},A.handled=none->St k s.heap->xs[k]?=none ->
  (∀h' e,Heap.ExtBut it s.heap h'->(∃o,h'.get? e=some o/\o.cls=.type "StopIteration")->E (.ref e) { s with heap:=h' })->wpAny (model prog w) A (Builtin.SmallTypes.nextOf (.ref it)) Q E s
def p7 (it t:Addr) (xs:Array Value) (k:Nat) (h:Heap):Prop:=IsTupIter h it t k/\IsTup h t xs
def gH {prog:Program}{w:World}{it t:Addr}{xs:Array Value}(ne:t≠it):kY prog w it t xs (p7 it t xs) where
 at_:=λ{k h h'} q k1 k2=>by
  obtain ⟨⟨o,ho,r⟩,⟨o',ho',r'⟩⟩:=q
  exact ⟨⟨o,k1 o ho,r⟩,⟨o',k2 o' ho',r'⟩⟩
 lt:=λq=>let ⟨⟨_,ho,_⟩,_⟩:=q;yA ho
 item:=λ{A E s k x Q} q hx hQ=>by
  obtain ⟨hit,ht⟩:=q
  obtain ⟨o,ho,hc,hd⟩:=id hit
  obtain ⟨ol,mx,_,nl,iC⟩:=id ht
  unfold Builtin.SmallTypes.nextOf
  refine zx (wpAny_callSpecial?_slot (name:=Str.ofString "__next__") hit.typeIs slot_tupleiter_next (j9 slot_tupleiter_next hit.typeIs entry_tupleiter_next ?_ (args_tupleiter_next _)))
  change wpAny _ _ (field (.ref it) 0 >>= _) _ _ s
  refine zx (jk ho hd (x:=.ref t) rfl ?_)
  rw [zP (by simp)]
  change wpAny _ _ (field (.ref it) 1 >>= _) _ _ s
  refine zx (jk ho hd (x:=.int k 0) rfl ?_)
  change wpAny _ _ (seqItems? (.ref t) >>= _) _ _ s
  refine zx (wpAny_seqItems mx iC ?_)
  simp only [hx,Int.toNat_natCast]
  have fl:=Obj.data_mapFields hd (·.setIfInBounds 1 (rawInt (k+1)))
  refine zx (wpAny_setField ho hd (by simp) (zZ ⟨x,rfl,zZ (hQ _ ⟨⟨_,Heap.get?_update_self _ ho (Obj.isFreed_of_fields fl),(Obj.cls_mapFields ..).trans hc,?_⟩,?_⟩ (Heap.SameBut.update ..))⟩))
  ·rw [fl];simp [rawInt]
  ·exact ht.extBut (Heap.SameBut.update ..).extBut ne
 stop:=λ{A E s k Q} hh q hx hE=>by
  obtain ⟨hit,ht⟩:=q
  obtain ⟨o,ho,hc,hd⟩:=id hit
  obtain ⟨ol,mx,_,nl,iC⟩:=id ht
  unfold Builtin.SmallTypes.nextOf
  refine zx (wpAny_callSpecial?_slot (name:=Str.ofString "__next__") hit.typeIs slot_tupleiter_next (j9 slot_tupleiter_next hit.typeIs entry_tupleiter_next ?_ (args_tupleiter_next _)))
  change wpAny _ _ (field (.ref it) 0 >>= _) _ _ s
  refine zx (jk ho hd (x:=.ref t) rfl ?_)
  rw [zP (by simp)]
  change wpAny _ _ (field (.ref it) 1 >>= _) _ _ s
  refine zx (jk ho hd (x:=.int k 0) rfl ?_)
  change wpAny _ _ (seqItems? (.ref t) >>= _) _ _ s
  refine zx (wpAny_seqItems mx iC ?_)
  simp only [hx,Int.toNat_natCast]
  refine zx (lR (zx (wpAny_setField ho hd (by simp) ?_)))
  change wpAny _ _ (newExc (.type "StopIteration") [] >>= _) _ _ _
  refine zx ?_
  simp only [newExc,newTuple]
  refine zx (gf (zx (m:=firstArgMember _ _) (wpAny_of_eq (a:=Value.none) (by first|rfl|(simp only [firstArgMember];rfl)) (gf ?_ (by size_fits)))) (by size_fits))
  simp only [raiseNew]
  refine zx (wpAny_handled ?_)
  first|rw [show A.in1.handled=none from hh]|rw [hh]
  exact zx (zZ (wpAny_throw (hE _ _ (((Heap.SameBut.update ..).extBut.push _).push _) ⟨_,yW _ rfl,rfl⟩)))
section
variable {prog:Program}{w:World}{A:Around}{E:Aa}{s:Shared}{z TI TO i1 i2 t1 t2:Addr}{k:Nat}{xs ys:Array Value}{x y a b:Value}{S1 S2:Nat->Heap->Prop}
def kY.by_same (S:kY prog w i1 t1 xs S1) {h h':Heap}{c:Addr}(q:S1 k h) (hs:Heap.SameBut c h h') (n1:i1≠c) (n2:t1≠c):S1 k h' :=
 S.at_ q (λo e=>hs.extBut _ _ n1 e) λo e=>hs.extBut _ _ n2 e
theorem DH {Q:Aa}(D:ZipApart z TI TO i1 i2 t1 t2) (U1:kY prog w i1 t1 xs S1) (U2:kY prog w i2 t2 ys S2) (hz:IsZip s.heap z TI TO .none) (dk:IsPair s.heap TI (.ref i1) (.ref i2)) (dz:IsPair s.heap TO a b)
  (q1:S1 k s.heap) (q2:S2 k s.heap) (hx:xs[k]?=some x) (hy:ys[k]?=some y)
  (hQ:∀h',IsZip h' z TI TO (rawInt s.heap.objs.size)->IsPair h' TO x y->S1 (k+1) h'->S2 (k+1) h'->IsPair h' s.heap.objs.size x y ->
   (∀c o,c≠z->c≠TO->c≠i1->c≠i2->s.heap.get? c=some o->h'.get? c=some o)->Q (.ref s.heap.objs.size) { s with heap:=h' }) :
  wpAny (model prog w) A (Builtin.«zip.__next__» ⟨[.ref z],[]⟩) (λfin s'=>∃v,fin=.done (.ret v)/\Q v s') E s:=by
 change wpAny _ _ (field (.ref z) 2 >>= _) _ _ _
 refine zx (jk hz rfl (x:=.bool false) rfl ?_)
 change wpAny _ _ (field (.ref z) 3 >>= _) _ _ _
 refine zx (jk hz rfl (x:=.ref TI) rfl (zx (wpAny_seqItems dk rfl ?_)))
 change wpAny _ _ (Builtin.SmallTypes.ownedTupleIsFree (.ref z) >>= _) _ _ _
 refine zx ?_
 unfold Builtin.SmallTypes.ownedTupleIsFree
 refine zx (jk hz rfl (x:=.none) rfl (zZ ?_))
 rw [zF rfl]
 refine zx (lR (zx (jk hz rfl (x:=.ref TO) rfl (zx (wpAny_setField_rec hz (by simp) λh1 z1 e1=>?_)))))
 replace z1:IsZip h1 z TI TO .ellipsis:=z1
 refine zx ?_
 simp only [List.zipIdx_cons,List.zipIdx_nil,List.forIn_cons,List.forIn_nil]
 refine zx (zx (wpAny_onRaise ?_))
 change wpAny _ _ (Builtin.SmallTypes.nextOf (.ref i1) >>= _) _ _ _
 refine zx (U1.item (U1.by_same q1 e1 D.i1z D.l1z) hx λh2 p2 e2=>zZ ?_)
 have o2:IsPair h2 TO a b:=e2.extBut _ _ D.TOi1 (e1.extBut _ _ D.TOz dz)
 refine zx (wpAny_seqItems o2 rfl (zx (wpAny_updateSeq_pair o2 λh3 o3 e3=>?_)))
 replace o3:IsPair h3 TO x b:=o3
 refine zx (wpAny_letGo (zZ (zx (zx (wpAny_onRaise ?_)))))
 change wpAny _ _ (Builtin.SmallTypes.nextOf (.ref i2) >>= _) _ _ _
 have r3:S2 k h3:=U2.by_same (U2.by_same (U2.by_same q2 e1 D.i2z D.l2z) e2 D.i12.symm D.l2i1) e3 D.TOi2.symm D.l2TO
 refine zx (U2.item r3 hy λh4 p4 e4=>zZ ?_)
 have o4:IsPair h4 TO x b:=e4.extBut _ _ D.TOi2 o3
 refine zx (wpAny_seqItems o4 rfl (zx (wpAny_updateSeq_pair o4 λh5 o5 e5=>?_)))
 replace o5:IsPair h5 TO x y:=o5
 refine zx (wpAny_letGo (zZ (zZ (zx (wpAny_seqItems o5 rfl (zx (wpAny_newTuple ?_)))))))
 have sz:h5.objs.size=s.heap.objs.size:=by rw [e5.1,e4.1,e3.1,e2.1,e1.1]
 have z5:IsZip h5 z TI TO .ellipsis:=e5.extBut _ _ D.TOz.symm (e4.extBut _ _ D.i2z.symm (e3.extBut _ _ D.TOz.symm (e2.extBut _ _ D.i1z.symm z1)))
 have k5:∀c o,c≠z->c≠TO->c≠i1->c≠i2->s.heap.get? c=some o->h5.get? c=some o:=λc o c1 c2 c3 c4 e=>e5.extBut _ _ c2 (e4.extBut _ _ c4 (e3.extBut _ _ c2 (e2.extBut _ _ c3 (e1.extBut _ _ c1 e))))
 have f1:S1 (k+1) h5:=U1.by_same (U1.by_same (U1.by_same p2 e3 D.TOi1.symm D.l1TO) e4 D.i12 D.l1i2) e5 D.TOi1.symm D.l1TO
 have f2:S2 (k+1) h5:=U2.by_same p4 e5 D.TOi2.symm D.l2TO
 change wpAny _ _ (Builtin.SmallTypes.ownedTupleHandOut (.ref z) (.ref h5.objs.size) >>= _) _ _ _
 refine zx ?_
 unfold Builtin.SmallTypes.ownedTupleHandOut
 have z6:IsZip (h5.push { cls:=.type "tuple", data:=.seq #[x,y] }) z TI TO .ellipsis:=yh _ z5
 refine zx (wpAny_setField_rec z6 (by simp) λh7 z7 e7=>?_)
 replace z7:IsZip h7 z TI TO (rawInt h5.objs.size):=z7
 refine wpAny_setField_rec z7 (by simp) λh8 z8 e8=>?_
 replace z8:IsZip h8 z TI TO (rawInt h5.objs.size):=z8
 have up:∀c o,c≠z->h5.get? c=some o->h8.get? c=some o:=λc o c1 e=>e8.extBut _ _ c1 (e7.extBut _ _ c1 (yh _ e))
 have nz:h5.objs.size≠z:=Nat.ne_of_gt (yA z5)
 have pT:IsPair h8 h5.objs.size x y:=e8.extBut _ _ nz (e7.extBut _ _ nz (yW _ rfl))
 rw [sz] at z8 pT
 refine zZ ⟨_,rfl,?_⟩
 change Q (.ref h5.objs.size) _
 rw [sz]
 exact hQ h8 z8 (up _ _ D.TOz o5) (U1.at_ f1 (λo e=>up _ o D.i1z e) λo e=>up _ o D.l1z e) (U2.at_ f2 (λo e=>up _ o D.i2z e) λo e=>up _ o D.l2z e) pT λc o c1 c2 c3 c4 e=>up c o c1 (k5 c o c1 c2 c3 c4 e)
def DI {Q:Fin->Shared->Prop}(hh:A.handled=none) (D:ZipApart z TI TO i1 i2 t1 t2) (U1:kY prog w i1 t1 xs S1) (U2:kY prog w i2 t2 ys S2) (hz:IsZip s.heap z TI TO .none) (dk:IsPair s.heap TI (.ref i1) (.ref i2)) (dz:IsPair s.heap TO a b)
  (q1:S1 k s.heap) (q2:S2 k s.heap) (he:xs[k]?=none\/ys[k]?=none)
  (hE:∀h' e,(∀c o,c≠z->c≠TO->c≠i1->c≠i2->s.heap.get? c=some o->h'.get? c=some o)->(∃o,h'.get? e=some o/\o.cls=.type "StopIteration")->E (.ref e) { s with heap:=h' }) :
  wpAny (model prog w) A (Builtin.«zip.__next__» ⟨[.ref z],[]⟩) Q E s:=by
 change wpAny _ _ (field (.ref z) 2 >>= _) _ _ _
 refine zx (jk hz rfl (x:=.bool false) rfl ?_)
 change wpAny _ _ (field (.ref z) 3 >>= _) _ _ _
 refine zx (jk hz rfl (x:=.ref TI) rfl (zx (wpAny_seqItems dk rfl ?_)))
 change wpAny _ _ (Builtin.SmallTypes.ownedTupleIsFree (.ref z) >>= _) _ _ _
 refine zx ?_
 unfold Builtin.SmallTypes.ownedTupleIsFree
 refine zx (jk hz rfl (x:=.none) rfl (zZ ?_))
 rw [zF rfl]
 refine zx (lR (zx (jk hz rfl (x:=.ref TO) rfl (zx (wpAny_setField_rec hz (by simp) λh1 z1 e1=>?_)))))
 replace z1:IsZip h1 z TI TO .ellipsis:=z1
 refine zx ?_
 simp only [List.zipIdx_cons,List.zipIdx_nil,List.forIn_cons,List.forIn_nil]
 refine zx (zx (wpAny_onRaise ?_))
 change wpAny _ _ (Builtin.SmallTypes.nextOf (.ref i1) >>= _) _ _ _
 have p1:=U1.by_same q1 e1 D.i1z D.l1z
 have DJ:∀{h:Heap} {e:Addr} {oe:Obj},IsZip h z TI TO .ellipsis->h.get? e=some oe->oe.cls=.type "StopIteration" -> e≠z:=λiz ho hc x=>by
  rw [x,iz] at ho
  cases ho
  simp at hc
 cases hx:xs[k]? with
 | none =>
  refine zx (U1.stop hh p1 hx λh2 e e2 ⟨oe,p8,p9⟩=>?_)
  have z2:IsZip h2 z TI TO .ellipsis:=e2 _ _ D.i1z.symm z1
  exact wpAny_setField_rec z2 (by simp) λh3 _ e3=>hE h3 e (λc o c1 _ c3 _ x=>e3.extBut _ _ c1 (e2 _ _ c3 (e1.extBut _ _ c1 x))) ⟨oe,e3.extBut _ _ (DJ z2 p8 p9) p8,p9⟩
 | some x =>
  have hy:ys[k]?=none:=by
   rcases he with h|h
   ·rw [hx] at h;cases h
   ·exact h
  refine zx (U1.item p1 hx λh2 p2 e2=>zZ ?_)
  have o2:IsPair h2 TO a b:=e2.extBut _ _ D.TOi1 (e1.extBut _ _ D.TOz dz)
  refine zx (wpAny_seqItems o2 rfl (zx (wpAny_updateSeq_pair o2 λh3 o3 e3=>?_)))
  refine zx (wpAny_letGo (zZ (zx (zx (wpAny_onRaise ?_)))))
  change wpAny _ _ (Builtin.SmallTypes.nextOf (.ref i2) >>= _) _ _ _
  have r3:S2 k h3:=U2.by_same (U2.by_same (U2.by_same q2 e1 D.i2z D.l2z) e2 D.i12.symm D.l2i1) e3 D.TOi2.symm D.l2TO
  refine zx (U2.stop hh r3 hy λh4 e e4 ⟨oe,p8,p9⟩=>?_)
  have z4:IsZip h4 z TI TO .ellipsis:=e4 _ _ D.i2z.symm (e3.extBut _ _ D.TOz.symm (e2.extBut _ _ D.i1z.symm z1))
  exact wpAny_setField_rec z4 (by simp) λh5 _ e5=>hE h5 e (λc o c1 c2 c3 c4 x=>e5.extBut _ _ c1 (e4 _ _ c4 (e3.extBut _ _ c2 (e2.extBut _ _ c3 (e1.extBut _ _ c1 x))))) ⟨oe,e5.extBut _ _ (DJ z4 p8 p9) p8,p9⟩
end
section
variable {X:Cx}{pins:Ac}{U:St}{H:Hp}{s:Shared}{h':Heap}
def Inv.turnL {ch:Ae}{t':Nat}(I:Inv X pins U H s) (hc:∀b∈ch,df X pins H b) (k:∀b o,b∉ch->s.heap.get? b=some o->h'.get? b=some o):Inv X pins U H { s with heap:=h',toks:=t' }:=by
 have gn:∀b u,H b=some u->b∉ch:=λb u e z=>by rw [(hc b z).1] at e;cases e
 refine I.step (g':=s.gens) (d':=s.drawn) (ch:=ch) (λb hb=>?_) (λb o _ _ nb e _=>k b o nb e) (λb o _ _ nb e _=>⟨o.slots,k b o nb e⟩) (λ_ _ _ _ n=>n)
  (λb o nb e=>⟨o,k b o nb e⟩) (λ_ _ e=>e) (λ_ _ _ e=>e) (λb ps e=>⟨#[],by rw [e];simp⟩) (λm hm=>?_) (λb u e=>?_) I.bare
 ·obtain ⟨_,f1,_,f3,f4,f5⟩:=hc b hb
  exact ⟨f3,f1,f4,f5⟩
 ·obtain ⟨o,es,ep,ho,r⟩:=hm
  exact ⟨o,es,ep,k _ o (λz=>(hc _ z).2.1 rfl) ho,r⟩
 ·refine (I.hok b u e).stay (λc v cw q=>k c v ?_ q) (λ_ q=>q) λ_ _ q=>q
  rcases cw with z|z
  ·rw [z];exact gn b u e
  ·exact gn c _ z
def Inv.turnN {ch:Ae}{T:Addr}{o:HO}{t':Nat}(I:Inv X pins U H s) (hc:∀b∈ch,df X pins H b) (k:∀b o,b∉ch->s.heap.get? b=some o->h'.get? b=some o) (hT:s.heap.objs.size<=T)
  (new:aR X.prog X.w (upd H T o) h' T o):Inv X pins U (upd H T o) { s with heap:=h',toks:=t' }:=by
 have fT:H T=none:=I.hok.fresh hT
 have gn:∀b u,H b=some u->b∉ch:=λb u e z=>by rw [(hc b z).1] at e;cases e
 have nT:∀b u,H b=some u->b≠T:=λb u e z=>by rw [z,fT] at e;cases e
 refine I.step (g':=s.gens) (d':=s.drawn) (ch:=ch) (λb hb=>?_) (λb o _ _ nb e _=>k b o nb e) (λb o _ _ nb e _=>⟨o.slots,k b o nb e⟩) (λb u _ e n=>?_)
  (λb o nb e=>⟨o,k b o nb e⟩) (λb xs e=>?_) (λb u v e=>?_) (λb ps e=>⟨#[],?_⟩) (λm hm=>?_) (λb u e=>?_) I.bare
 ·obtain ⟨_,f1,_,f3,f4,f5⟩:=hc b hb
  exact ⟨f3,f1,f4,f5⟩
 ·rw [yE (jb (jO (yA e) hT))];exact n
 ·rw [yE (nT b _ e)];exact e
 ·rw [yE (nT b _ e)];exact e
 ·rw [yE (nT b _ e),e];simp
 ·obtain ⟨o,es,ep,ho,r⟩:=hm
  exact ⟨o,es,ep,k _ o (λz=>(hc _ z).2.1 rfl) ho,r⟩
 ·by_cases z:b=T
  ·rw [z] at e ⊢
   rw [jf] at e
   cases e
   exact new
  ·rw [yE z] at e
   refine (I.hok b u e).stay (λc v cw q=>k c v ?_ q) (λc q=>by rw [yE (nT c _ q)];exact q) λc xs q=>by rw [yE (nT c _ q)];exact q
   rcases cw with z|z
   ·rw [z];exact gn b u e
   ·exact gn c _ z
end
def vT (K:Frag) (a b:Addr):It :=
 ⟨λi H=>∃xs ys x y,aW K H a xs/\aW K H b ys/\xs[i]?=some x/\ys[i]?=some y,
  λi H v H'=>∃T x y,H T=none/\v=.ref T/\H'=upd H T (.tup [x,y])/\(∀xs,aW K H a xs->xs[i]?=some x)/\∀ys,aW K H b ys->ys[i]?=some y,
  λi H=>∃xs ys,aW K H a xs/\aW K H b ys/\(xs.length<=i\/ys.length<=i)⟩
def DK (z TI TO i1 i2 a b:Addr) (k:Nat) (h:Heap):Prop:=IsZip h z TI TO .none/\IsPair h TI (.ref i1) (.ref i2)/\(∃u v,IsPair h TO u v)/\IsTupIter h i1 a k/\IsTupIter h i2 b k
def kZ {X:Cx}{pins:Ac}{U:St}{H:Hp}{s:Shared}{a c:Addr}{xs:List V}(I:Inv X pins U H s) (hf:df X pins H c) (hq:aW X.K H a xs):a≠c:=by
 rintro rfl
 rcases hq with q|⟨o,its,n,hl,_⟩
 ·rcases q with q|⟨ob,q⟩<;>(rw [hf.1] at q;cases q)
 ·have e:=I.ok.mod.kin _ _ hl
  rcases hf.2.2.2.1 with z|z
  ·exact I.ok.noex _ _ e z
  ·exact absurd (jO (yA (I.ok.bs _ _ e).1) z) (Nat.lt_irrefl _)
structure uH (z TI TO i1 i2:Addr):Prop where
 TIz:TI≠z
 TOz:TO≠z
 i1z:i1≠z
 i2z:i2≠z
 TITO:TI≠TO
 TIi1:TI≠i1
 TIi2:TI≠i2
 TOi1:TO≠i1
 TOi2:TO≠i2
 i12:i1≠i2
theorem M3 {P:Program}{w:World}{K:Frag}{elts:List Expr}{kt:Nat}{pos:Pos}{z TI TO i1 i2 a b:Addr}(V5:uH z TI TO i1 i2):Turn P w K (.Tuple elts kt pos) (vT K a b) [z,TI,TO,i1,i2] z (DK z TI TO i1 i2 a b) where
 mem:=by simp
 obj:=λi h st c hc=>by
  obtain ⟨hz,dk,⟨u,v,dz⟩,⟨o1,e1,_,d1⟩,⟨o2,e2,_,d2⟩⟩:=st
  simp only [yC,List.not_mem_nil,wt] at hc
  rcases hc with q|q|q|q|q<;>rw [q]
  ·exact ⟨_,hz,λv z=>by cases z⟩
  ·exact ⟨_,dk,λv z=>by cases z⟩
  ·exact ⟨_,dz,λv z=>by cases z⟩
  ·exact ⟨_,e1,λv z=>by rw [d1] at z;cases z⟩
  ·exact ⟨_,e2,λv z=>by rw [d2] at z;cases z⟩
 keep:=λi h h' st k=>by
  obtain ⟨hz,dk,⟨u,v,dz⟩,⟨o1,e1,r1⟩,⟨o2,e2,r2⟩⟩:=st
  exact ⟨k z (by simp) _ hz,k TI (by simp) _ dk,⟨u,v,k TO (by simp) _ dz⟩,⟨o1,k i1 (by simp) _ e1,r1⟩,⟨o2,k i2 (by simp) _ e2,r2⟩⟩
 item:=by
  intro X hP hw hK hc i pins s U H E I hf st hg
  subst hP hw hK
  obtain ⟨xs,ys,x,y,d0,dU,hx,hy⟩:=hg
  obtain ⟨hz,dk,⟨u0,v0,dz⟩,gI,j_⟩:=st
  obtain ⟨k7,my,p1,_⟩:=I.tuple d0
  obtain ⟨aL,mz,p2,_⟩:=I.tuple dU
  obtain ⟨u,hu,ru⟩:=my.get hx
  obtain ⟨v,hv,rv⟩:=mz.get hy
  have n1:∀c∈[z,TI,TO,i1,i2],a≠c:=λc h=>kZ I (hf c h) d0
  have n2:∀c∈[z,TI,TO,i1,i2],b≠c:=λc h=>kZ I (hf c h) dU
  have D:ZipApart z TI TO i1 i2 a b:=⟨V5.TIz,V5.TOz,V5.i1z,V5.i2z,V5.TITO,V5.TIi1,V5.TIi2,V5.TOi1,V5.TOi2,V5.i12,n1 z (by simp),n1 TO (by simp),n1 i1 (by simp),n1 i2 (by simp),n2 z (by simp),n2 TO (by simp),n2 i1 (by simp),n2 i2 (by simp)⟩
  have hT:s.TypeIs (.ref z) "zip" := ⟨_,hz,rfl⟩
  unfold pyNext
  refine zx (wpAny_attempt (wpAny_callSpecial?_slot (name:=Str.ofString "__next__") hT F.slot_zip_next (j9 F.slot_zip_next hT F.entry_zip_next
   (DH D (gH D.l1i1) (gH D.l2i2) hz dk dz ⟨gI,p1⟩ ⟨j_,p2⟩ (by simpa using hu) (by simpa using hv) λh1 z1 o1 f1 f2 pT kk=>zZ ⟨_,rfl,?_⟩) (F.args_zip_next_1 _))))
  refine wpAny_letOwnedTupleGo_zip (s:={ s with heap:=h1 }) z1 λh2 z2 e2=>?_
  have fr:H s.heap.objs.size=none:=I.hok.fresh (ym _)
  have up:∀c o,c≠z->h1.get? c=some o->h2.get? c=some o:=λc o n e=>e2.extBut _ _ n e
  have nz:s.heap.objs.size≠z:=Nat.ne_of_gt (yA hz)
  have k2:∀c o,c∉[z,TI,TO,i1,i2]->s.heap.get? c=some o->h2.get? c=some o:=λc o nc e =>
   up c o (λq=>nc (by simp [q])) (kk c o (λq=>nc (by simp [q])) (λq=>nc (by simp [q])) (λq=>nc (by simp [q])) (λq=>nc (by simp [q])) e)
  refine ⟨.ref s.heap.objs.size,upd H s.heap.objs.size (.tup [x,y]),?_,rfl,⟨s.heap.objs.size,x,y,fr,rfl,rfl,λc9 h'=>by rw [I.tuple_inj h' d0];exact hx,λke h'=>by rw [I.tuple_inj h' dU];exact hy⟩,?_,λc cw=>?_⟩
  ·exact Inv.turnN (s:=s) (h':=h2) (t':=s.toks) I hf k2 (ym _) ⟨show 2<=sizeLine by decide,[u,v],.cons ru (.cons rv .nil),_,up _ _ nz pT,rfl,_,rfl⟩
  ·exact ⟨z2,up _ _ D.TIz (kk _ _ D.TIz D.TITO D.TIi1 D.TIi2 dk),⟨_,_,up _ _ D.TOz o1⟩,(let ⟨o,e,r⟩:=f1.1;⟨o,up _ _ D.i1z e,r⟩),(let ⟨o,e,r⟩:=f2.1;⟨o,up _ _ D.i2z e,r⟩)⟩
  ·have q:c≠s.heap.objs.size:=by
    have lt:∃o,s.heap.get? c=some o:=by
     simp only [yC,List.not_mem_nil,wt] at cw
     rcases cw with q|q|q|q|q<;>rw [q]
     ·exact ⟨_,hz⟩
     ·exact ⟨_,dk⟩
     ·exact ⟨_,dz⟩
     ·exact let ⟨o,e,_⟩:=gI;⟨o,e⟩
     ·exact let ⟨o,e,_⟩:=j_;⟨o,e⟩
    obtain ⟨o,e⟩:=lt
    exact jb (yA e)
   rw [yE q]
   exact (hf c cw).1
 done:=by
  intro X hP hw hK hc i pins s U H E I hf st hg
  subst hP hw hK
  obtain ⟨xs,ys,d0,dU,hx⟩:=hg
  obtain ⟨hz,dk,⟨u0,v0,dz⟩,gI,j_⟩:=st
  obtain ⟨k7,my,p1,_⟩:=I.tuple d0
  obtain ⟨aL,mz,p2,_⟩:=I.tuple dU
  have l1:=my.length
  have l2:=mz.length
  have n1:∀c∈[z,TI,TO,i1,i2],a≠c:=λc h=>kZ I (hf c h) d0
  have n2:∀c∈[z,TI,TO,i1,i2],b≠c:=λc h=>kZ I (hf c h) dU
  have D:ZipApart z TI TO i1 i2 a b:=⟨V5.TIz,V5.TOz,V5.i1z,V5.i2z,V5.TITO,V5.TIi1,V5.TIi2,V5.TOi1,V5.TOi2,V5.i12,n1 z (by simp),n1 TO (by simp),n1 i1 (by simp),n1 i2 (by simp),n2 z (by simp),n2 TO (by simp),n2 i1 (by simp),n2 i2 (by simp)⟩
  have hT:s.TypeIs (.ref z) "zip" := ⟨_,hz,rfl⟩
  unfold pyNext
  refine zx (wpAny_attempt (wpAny_callSpecial?_slot (name:=Str.ofString "__next__") hT F.slot_zip_next (j9 F.slot_zip_next hT F.entry_zip_next
   (DI (I.ok.hd hc) D (gH D.l1i1) (gH D.l2i2) hz dk dz ⟨gI,p1⟩ ⟨j_,p2⟩ (hx.imp (λh=>by simp;omega) λh=>by simp;omega) λh1 e kk he=>?_) (F.args_zip_next_1 _))))
  obtain ⟨o,ho,vU⟩:=he
  refine zx (wpAny_isInstance (T := "StopIteration") (b:=true) ⟨o,ho,vU⟩ isSubtype_stop ?_)
  exact zZ ⟨rfl,Inv.turnL (t':=s.toks) I hf λc o nc e=>kk c o (λq=>nc (by simp [q])) (λq=>nc (by simp [q])) (λq=>nc (by simp [q])) (λq=>nc (by simp [q])) e⟩
 self:=λ_ _ _ _ _ st h=>wpAny_pyIter_zip st.1 h
abbrev si (h:Heap) (a:Addr):Heap:=h.push { cls:=.type "tuple_iterator", data:=.fields #[.ref a,.int 0 0] }
abbrev sj (h:Heap) (a b:Addr):Heap:=(si h a).push { cls:=.type "tuple_iterator", data:=.fields #[.ref b,.int 0 0] }
abbrev sr (h:Heap) (a b:Addr):Heap:=(sj h a b).push { cls:=.type "tuple", data:=.seq #[.ref h.objs.size,.ref (si h a).objs.size] }
abbrev su (h:Heap) (a b:Addr):Heap:=(sr h a b).push { cls:=.type "tuple", data:=.seq #[.none,.none] }
abbrev kf (h:Heap) (a b:Addr):Heap:=(su h a b).push { cls:=.type "zip", data:=.fields #[.none,.bool false,.bool false,.ref (sj h a b).objs.size,.ref (sr h a b).objs.size] }
def M4 (a b:Addr) (xs ys:Array Value) :
  Meets (Builtin.«zip.__new__» ⟨[.type "zip", .ref a,.ref b],[]⟩) (λ_ R s=>IsTup s.heap a xs/\IsTup s.heap b ys/\R (.ok (.ret (.ref (su s.heap a b).objs.size))) { s with heap:=kf s.heap a b }) :=
 .of_wp λprog w A R s h=>by
  obtain ⟨hp,g,d,tk,os⟩:=s
  obtain ⟨h1,h2,h⟩:=h
  have uI:=sub_zip
  have H1:IsTup (Shared.heap ⟨hp,g,d,tk,os⟩) a xs:=h1
  have H2:IsTup (Shared.heap ⟨hp.push { cls:=.type "tuple_iterator", data:=.fields #[.ref a,.int 0 0] },g,d,tk,os⟩) b ys:=h2.push _
  wp_walk using iter_tuple H1,iter_tuple H2
  exact ⟨_,rfl,h⟩
section
variable {prog:Program}{w:World}{A:Around}{E:Aa}{s:Shared}
def M5 {a b:Addr}{xs ys:Array Value}{Q:Aa}(h1:IsTup s.heap a xs) (h2:IsTup s.heap b ys)
  (h:DK (s.heap.objs.size+4) (s.heap.objs.size+2) (s.heap.objs.size+3) s.heap.objs.size (s.heap.objs.size+1) a b 0 (kf s.heap a b)->Q (.ref (s.heap.objs.size+4)) { s with heap:=kf s.heap a b }) :
  wpAny (model prog w) A (call (.type "zip") [.ref a,.ref b]) Q E s:=by
 refine callType_new F.called_zip (by decide) (F.typeCall_zip_2 _ _) (F.newCall_zip_2 _ _) (λobj=>F.args_object_init_3 obj _ _) F.entry_zip_new (M4 a b xs ys) ⟨h1,h2,?_⟩
 have z1:(si s.heap a).objs.size=s.heap.objs.size+1:=Heap.size_push ..
 have z2:(sj s.heap a b).objs.size=s.heap.objs.size+2:=by rw [Heap.size_push,z1]
 have z3:(sr s.heap a b).objs.size=s.heap.objs.size+3:=by rw [Heap.size_push,z2]
 have z4:(su s.heap a b).objs.size=s.heap.objs.size+4:=by rw [Heap.size_push,z3]
 have g5:(kf s.heap a b).get? (su s.heap a b).objs.size=some _:=yW _ rfl
 have g4:(kf s.heap a b).get? (sr s.heap a b).objs.size=some _:=yh _ (yW _ rfl)
 have g3:(kf s.heap a b).get? (sj s.heap a b).objs.size=some _:=yh _ (yh _ (yW _ rfl))
 have g2:(kf s.heap a b).get? (si s.heap a).objs.size=some _:=yh _ (yh _ (yh _ (yW _ rfl)))
 have g1:(kf s.heap a b).get? s.heap.objs.size=some _:=yh _ (yh _ (yh _ (yh _ (yW _ rfl))))
 show _/\_
 rw [z2,z3,z4] at g5
 rw [z1,z2] at g3
 rw [z3] at g4
 rw [z1] at g2
 rw [z4]
 exact ⟨⟨_,g5,rfl⟩,h ⟨g5,g3,⟨_,_,g4⟩,⟨_,g1,rfl,rfl⟩,⟨_,g2,rfl,rfl⟩⟩⟩
end
theorem DL:bootBuiltins "zip" = some (.type "zip"):=by decide +kernel
def M6 (K:Frag) (ta:TA):TI:=λU H R=>ta U H λvs H1=>∃a b,vs=[.ref a,.ref b]/\(∃xs,aW K H1 a xs)/\(∃ys,aW K H1 b ys)/\R (vT K a b) H1
theorem M8 {X:Cx} {elts:List Expr} {kt:Nat} {tp:Pos} {x y:Expr} {ta:TA} {p pos:Pos} (hg:Gl X "zip") (hm:X.mg "zip" = none) (ha:PA X [x,y] ta) (hs:starEach [x,y] X.env=[(false,eval x X.env),(false,eval y X.env)]:=by rfl) (fW:starEach [y] X.env=[(false,eval y X.env)]:=by rfl) :
  PI X (.Tuple elts kt tp) (.Call (.Name "zip" p) [x,y] [] pos) (M6 X.K ta):=by
 intro pins s U H R I h
 refine Call_ (kM I hg hm DL (PyProof.Rows.callWith_type1 (aP (ha pos pins s U H _ I h) λus s1 ⟨vs,H1,I1,r1,q1⟩=>?_) (by rw [hs,fW]) (by rw [fW];rfl)))
 obtain ⟨a,b,e,⟨xs,d0⟩,⟨ys,dU⟩,q⟩:=q1
 subst e
 obtain ⟨u,v,rfl,ru,rv⟩:=vj r1
 obtain rfl:u=Value.ref a:=ru
 obtain rfl:v=Value.ref b:=rv
 obtain ⟨k7,_,p1,_⟩:=I1.tuple d0
 obtain ⟨aL,_,p2,_⟩:=I1.tuple dU
 refine M5 p1 p2 λst=>wpAny_pyIter_zip st.1 ?_
 have kk:∀c o,s1.heap.get? c=some o->(kf s1.heap a b).get? c=some o:=λc o e=>yh _ (yh _ (yh _ (yh _ (yh _ e))))
 refine ⟨_,[s1.heap.objs.size+4,s1.heap.objs.size+2,s1.heap.objs.size+3,s1.heap.objs.size,s1.heap.objs.size+1],_,_,H1,rfl,I1.kept (t':=s1.toks) kk,M3 ?_,st,λc hc=>?_,q⟩
 ·have ne:∀(n i j:Nat),i≠j->n+i≠n+j:=λn i j h z=>h (Nat.add_left_cancel z)
  have kg:∀(n i:Nat),i≠0->n+i≠n:=λn i h z=>h (by omega)
  exact ⟨ne _ 2 4 (by decide),ne _ 3 4 (by decide),(kg _ 4 (by decide)).symm,ne _ 1 4 (by decide),ne _ 2 3 (by decide),kg _ 2 (by decide),ne _ 2 1 (by decide),kg _ 3 (by decide),ne _ 3 1 (by decide),(kg _ 1 (by decide)).symm⟩
 ·have le:s1.heap.objs.size<=c:=by
   simp only [yC,List.not_mem_nil,wt] at hc
   rcases hc with q|q|q|q|q<;>rw [q]<;>first|exact ym _|exact Nat.le_add_right _ _
  exact I1.fpOk le (I1.hok.fresh le)
structure KD (X:Cx) (a:Addr):Prop where
 ob:∃es n,X.K.lookup a=some ⟨.type "dict", none,.dict es n,#[]⟩/\KeysLit X.w.params es.toList
 no:(a==sysModules)=false
section
variable {X:Cx}
end
end L2
namespace Mi
open PySem L2 PySem.W
inductive PV where
 | non|bl (b:Bool)|int (i:Int)|str (x:Str)|ty (n:String)
 | tup (xs:List PV)|frl (xs:List PV)|ref (n:Nat)|fn (x:Str)|kd (ks:Ad) (xs:List PV)|exo (c:Str) (ks:Ad) (xs:List PV)
inductive SO where
 | lst (xs:List PV)|dic (ks:Ad) (xs:List PV)|ins (c:Str) (ks:Ad) (xs:List PV)|fdi (ks:Ad) (xs:List PV)|dit (ks:List (List Key)) (xs:List PV)
abbrev aa:=List SO
inductive Res (α:Type) where
 | ok (a:α) (st:aa)|err (c:Str) (ks:Ad) (xs:List PV) (st:aa)|stuck
abbrev Mo (α:Type):=aa->Res α
def Res.bind {α β:Type}:Res α->(α->Mo β)->Res β
 | .ok a st,f=>f a st
 | .err c ks xs st,_=>.err c ks xs st
 | .stuck,_=>.stuck
abbrev zm:=List (Option PV)
def M9 (K:Frag) (a:Addr) (ks:Ad) (us:Af):Prop:=∀z,nsIn K a z=some ((ks.zip us).lookup z)
def kh (K:Frag) (H:Hp) (a:Addr) (vs:List V):Prop :=
 (∃o,H a=some (.frz o (.lst vs)))\/∃(o:Obj) (its:Array Value) (n:Nat),K.lookup a=some o/\o.cls=.type "list" /\ o.dict=none/\o.data=.seq its n/\its.size<=sizeLine/\Vals vs its.toList
def kh.sq {K:Frag}{H:Hp}{a:Addr}{vs:List V}(h:kh K H a vs):aQ K H a vs:=by
 rcases h with ⟨o,h⟩|h
 ·exact .inl (.inr ⟨o,h⟩)
 ·exact .inr h
section
variable (K:Frag) (mg:Ab)
mutual
def R (ρ:Ae) (H:Hp):PV->V->Prop
 | .non,v=>v=.non
 | .bl b,v=>v=.bl b
 | .int i,v=>v=.int i
 | .str x,v=>v=.str x
 | .ty n,v=>v=.ty n
 | .tup xs,v=>∃a vs,v=.ref a/\aW K H a vs/\Rs ρ H xs vs
 | .frl xs,v=>∃a vs,v=.ref a/\kh K H a vs/\Rs ρ H xs vs
 | .ref n,v=>∃a,v=.ref a/\ρ[n]?=some a
 | .fn x,v=>∃f,v=.ref f/\mg x=some (.ref f)
 | .kd ks xs,v=>∃a us vs,v=.ref a/\M9 K a ks us/\Vals vs us/\Rs ρ H xs vs
 | .exo c ks xs,v=>∃a C d vs,v=.ref a/\mg c=some (.ref C)/\H a=some (kX C (some d) a)/\H d=some (.xd (ks.zip vs))/\Rs ρ H xs vs/\ks.length=vs.length
def Rs (ρ:Ae) (H:Hp):List PV->List V->Prop
 | [],vs=>vs=[]
 | x::xs,vs=>∃v r,vs=v::r/\R ρ H x v/\Rs ρ H xs r
end
def dE (a:Addr) (its:List (List Key×Addr×Value)):HO:=.ext λP w h=>its.length<=sizeLine/\(a==sysModules)=false /\
 ∃o es ep,h.get? a=some o/\o.ExactDict/\o.data=.dict es ep/\es.toList=its.map (entryOfKey (tupleKind (aY P w)))/\(its.map (·.1)).Nodup
def iD (ρ:Ae) (H:Hp):SO->Addr->Prop
 | .lst xs,a=>∃vs,H a=some (.lst vs)/\Rs K mg ρ H xs vs
 | .dic ks xs,a=>∃vs,H a=some (.dK ((ks.map Sum.inr).zip vs))/\Rs K mg ρ H xs vs/\ks.length=vs.length
 | .ins c ks xs,a=>∃C dx vs,mg c=some (.ref C)/\H a=some (.ins C dx (ks.zip vs))/\Rs K mg ρ H xs vs/\ks.length=vs.length
 | .fdi ks xs,a=>∃o vs,H a=some (.frz o (.dK ((ks.map Sum.inr).zip vs)))/\Rs K mg ρ H xs vs/\ks.length=vs.length
 | .dit ks xs,a=>∃its vs,H a=some (dE a its)/\its.map (·.1)=ks/\(∀x,x∈its->aW K H x.2.1 (x.1.map kV))/\Vals vs (its.map (·.2.2))/\Rs K mg ρ H xs vs
structure aX (ρ:Ae) (H:Hp) (st:aa):Prop where
 len:ρ.length=st.length
 nd:ρ.Nodup
 at_:∀(n:Nat) so,st[n]?=some so->∃a,ρ[n]?=some a/\iD K mg ρ H so a
def Still (φ:Program->World->Heap->Prop):Prop:=∀P w,∃h:Heap,φ P w h/\∀b o es ep,h.get? b=some o->o.data ≠ .dict es ep
open Classical in
noncomputable def sx:HO->Bool
 | .tup _=>true
 | .frz _ _=>true
 | .xd _=>true
 | .ext φ=>decide (Still φ)
 | _=>false
structure Ext (ρ:Ae) (H:Hp) (ah:Ae) (H':Hp):Prop where
 pre:∃δ,ah=ρ++δ
 imm:∀a o,H a=some o->sx o=true->H' a=some o
def M_ {C:Addr}{d:Option Addr}{a:Addr}:sx (kX C d a)=true:=by
 have st:Still λ_ _ h=>∃T:Addr,XO h a (.ref C) d (.ref T):=λP w=>by
  have g:∀b,(Heap.mk (Array.replicate (a+1) { cls:=.ref C,dict:=d,data:=.fields #[.none,.ref 0,.none,.none,.none,.none] }) {}).get? b=if b<a+1 then some { cls:=.ref C,dict:=d,data:=.fields #[.none,.ref 0,.none,.none,.none,.none] } else none:=by
   intro b
   unfold Heap.get?
   by_cases hb:b<a+1
   ·simp [Array.getElem?_replicate,hb]
   ·simp [Array.getElem?_replicate,hb]
  refine ⟨_,⟨0,_,_,(g a).trans (zF (wv a)),rfl,rfl,rfl,rfl,rfl⟩,λb o es ep e=>?_⟩
  rw [g b] at e
  split at e
  ·cases e;intro z;cases z
  ·cases e
 exact @decide_eq_true _ (Classical.propDecidable _) st
def Na (P:Program) (w:World) {a:Addr}{its:List (List Key×Addr×Value)}:sx (dE a its)=false:=by
 refine @decide_eq_false _ (Classical.propDecidable _) λst=>?_
 obtain ⟨h,⟨_,_,o,es,ep,e,_,d,_⟩,n⟩:=st P w
 exact n _ _ _ _ e d
def XR (ρ:Ae) (H:Hp) (c:Str) (ks:Ad) (xs:List PV) (Cv:Value) (d:Option Addr):Prop :=
 ∃C,Cv=.ref C/\mg c=some (.ref C)/\((ks=[]/\d=none)\/∃dd vs,d=some dd/\H dd=some (.xd (ks.zip vs))/\Rs K mg ρ H xs vs/\ks.length=vs.length)
def Out {α:Type}(ρ:Ae) (H:Hp) (r:Res α) (good:List Addr->Hp->α->aa->Prop) (E:XK):Prop :=
 match r with
 | .ok x st=>∀ah H',Ext ρ H ah H'->aX K mg ah H' st->good ah H' x st
 | .err c ks xs st=>∀ah H' C d,Ext ρ H ah H'->aX K mg ah H' st->XR K mg ah H' c ks xs C d->E C d H'
 | .stuck=>False
structure bg (ρ:Ae) (H:Hp) (env:zm) (U:St):Prop where
 len:env.length=U.length
 at_:∀(i:Nat) x,env[i]?=some (some x)->∃v,U[i]?=some (some v)/\R K mg ρ H x v
def gV (Q:VK):List Addr->Hp->PV->aa->Prop:=fun ρ H x _=>∀v,R K mg ρ H x v->Q v H
def Nb (Q:List V->Hp->Prop):List Addr->Hp->List PV->aa->Prop:=fun ρ H x _=>∀v,Rs K mg ρ H x v->Q v H
def gB (Q:Bool->Hp->Prop):List Addr->Hp->Bool->aa->Prop:=λ_ H x _=>Q x H
inductive Fl where
 | nx (env:zm)|rt (x:PV)|bk (env:zm)|ct (env:zm)
abbrev Ag:=List (List Key)
abbrev Ah:=zm->Mo (List PV)
abbrev Ai:=zm->Mo PV
abbrev Aj:=zm->Mo Fl
abbrev Ak:=zm->Mo Bool
abbrev Al:=List PV->Mo PV
abbrev Am:=PV->PV->Mo PV
abbrev An:=List PV
abbrev Ao:=Option PV
def gS (D:Ends):List Addr->Hp->Fl->aa->Prop:=fun ρ H x _ =>
 match x with
 | .nx env=>∀U,bg K mg ρ H env U->D.nx U H
 | .rt x=>∀v,R K mg ρ H x v->D.rt v H
 | .bk env=>∀U,bg K mg ρ H env U->D.bk U H
 | .ct env=>∀U,bg K mg ρ H env U->D.ct U H
end
section
variable {K:Frag}{mg:Ab}{ρ af ap:Ae}{H H1 H2:Hp}
def Ext.refl:Ext ρ H ρ H:=⟨⟨[],by simp⟩,λ_ _ h _=>h⟩
def Ext.trans (a:Ext ρ H af H1) (b:Ext af H1 ap H2):Ext ρ H ap H2:=by
 obtain ⟨⟨d,hd⟩,i⟩:=a
 obtain ⟨⟨d',gk⟩,i'⟩:=b
 exact ⟨⟨d++d',by rw [gk,hd,kK]⟩,λa o h m=>i' a o (i a o h m) m⟩
def Ext.get (a:Ext ρ H af H1) {n:Nat}{p:Addr}(h:ρ[n]?=some p):af[n]?=some p:=by
 obtain ⟨⟨d,hd⟩,_⟩:=a
 rw [hd,gi (yt.mp h).1]
 exact h
def Ext.sqT (e:Ext ρ H af H1) {a:Addr}{xs:List V}(h:aW K H a xs):aW K H1 a xs:=by
 rcases h with (h|⟨o,h⟩)|h
 ·exact .inl (.inl (e.imm _ _ h rfl))
 ·exact .inl (.inr ⟨o,e.imm _ _ h rfl⟩)
 ·exact .inr h
def Ext.frl (e:Ext ρ H af H1) {a:Addr}{xs:List V}(h:kh K H a xs):kh K H1 a xs:=by
 rcases h with ⟨o,h⟩|h
 ·exact .inl ⟨o,e.imm _ _ h rfl⟩
 ·exact .inr h
mutual
theorem R.ext (e:Ext ρ H af H1):∀(x:PV) {v:V},R K mg ρ H x v->R K mg af H1 x v
 | .non,_,h=>h
 | .bl _,_,h=>h
 | .int _,_,h=>h
 | .str _,_,h=>h
 | .ty _,_,h=>h
 | .tup xs,_,h=>by
  obtain ⟨a,vs,h1,h2,h3⟩:=h
  exact ⟨a,vs,h1,e.sqT h2,Rs.ext e xs h3⟩
 | .frl xs,_,h=>by
  obtain ⟨a,vs,h1,h2,h3⟩:=h
  exact ⟨a,vs,h1,e.frl h2,Rs.ext e xs h3⟩
 | .ref n,_,h=>by
  obtain ⟨a,h1,h2⟩:=h
  exact ⟨a,h1,e.get h2⟩
 | .fn _,_,h=>h
 | .kd ks xs,_,h=>by
  obtain ⟨a,us,vs,h1,h2,h4,h3⟩:=h
  exact ⟨a,us,vs,h1,h2,h4,Rs.ext e xs h3⟩
 | .exo c ks xs,_,h=>by
  obtain ⟨a,C,d,vs,h1,h2,h3,h4,h5,h6⟩:=h
  exact ⟨a,C,d,vs,h1,h2,e.imm _ _ h3 M_,e.imm _ _ h4 rfl,Rs.ext e xs h5,h6⟩
theorem Rs.ext (e:Ext ρ H af H1):∀(xs:An) {vs:List V},Rs K mg ρ H xs vs->Rs K mg af H1 xs vs
 | [],_,h=>h
 | x::xs,_,h=>by
  obtain ⟨v,r,h1,h2,h3⟩:=h
  exact ⟨v,r,h1,R.ext e x h2,Rs.ext e xs h3⟩
end
def bg.ext (e:Ext ρ H af H1) {env:zm}{U:St}(h:bg K mg ρ H env U):bg K mg af H1 env U :=
 ⟨h.len,λi x hx=>let ⟨v,a,b⟩:=h.at_ i x hx;⟨v,a,R.ext e x b⟩⟩
theorem Rs.len:∀{xs:An}{vs:List V},Rs K mg ρ H xs vs->xs.length=vs.length
 | [],_,h=>by cases h;rfl
 | x::xs,_,h=>by
  obtain ⟨v,r,rfl,_,h3⟩:=h
  simp [Rs.len h3]
theorem Rs.get:∀{xs:An}{vs:List V}{i:Nat}{x:PV},Rs K mg ρ H xs vs->xs[i]?=some x->∃v,vs[i]?=some v/\R K mg ρ H x v
 | [],_,_,_,_,e=>by simp at e
 | x::xs,_,0,_,h,e=>by
  obtain ⟨v,r,rfl,h2,h3⟩:=h
  simp at e
  subst e
  exact ⟨v,by simp,h2⟩
 | x::xs,_,i+1,y,h,e=>by
  obtain ⟨v,r,rfl,h2,h3⟩:=h
  simp at e
  obtain ⟨v',h4,h5⟩:=Rs.get h3 e
  exact ⟨v',by simpa using h4,h5⟩
theorem Rs.append:∀{xs ys:An}{vs ws:List V},Rs K mg ρ H xs vs->Rs K mg ρ H ys ws->Rs K mg ρ H (xs++ys) (vs++ws)
 | [],_,_,_,h,h'=>by cases h;exact h'
 | x::xs,_,_,_,h,h'=>by
  obtain ⟨v,r,rfl,h2,h3⟩:=h
  exact ⟨v,r++_,rfl,h2,Rs.append h3 h'⟩
theorem Rs.take:∀{xs:An}{vs:List V}(n:Nat),Rs K mg ρ H xs vs->Rs K mg ρ H (xs.take n) (vs.take n)
 | [],_,n,h=>by cases h;simp [Rs]
 | x::xs,_,0,h=>by simp [Rs]
 | x::xs,_,n+1,h=>by
  obtain ⟨v,r,rfl,h2,h3⟩:=h
  exact ⟨v,_,rfl,h2,Rs.take n h3⟩
theorem Rs.drop:∀{xs:An}{vs:List V}(n:Nat),Rs K mg ρ H xs vs->Rs K mg ρ H (xs.drop n) (vs.drop n)
 | [],_,n,h=>by cases h;simp [Rs]
 | x::xs,_,0,h=>h
 | x::xs,_,n+1,h=>by
  obtain ⟨v,r,rfl,h2,h3⟩:=h
  exact Rs.drop n h3
def bg.set {env:zm}{U:St}{x:PV}{v:V}(h:bg K mg ρ H env U) (i:Nat) (r:R K mg ρ H x v):bg K mg ρ H (env.set i (some x)) (U.set i (some v)):=by
 refine ⟨by simp [h.len],λj y hy=>?_⟩
 rw [List.getElem?_set] at hy ⊢
 by_cases cq:i=j
 ·subst cq
  by_cases hl:i<env.length
  ·rw [zF rfl,zF hl] at hy
   rw [zF rfl,zF (by rw [<-h.len];exact hl)]
   cases hy
   exact ⟨v,rfl,r⟩
  ·rw [zF rfl,zP hl] at hy
   cases hy
 ·rw [zP cq] at hy ⊢
  exact h.at_ j y hy
def bg.cons {env:zm}{U:St}{x:PV}{v:V}(h:bg K mg ρ H env U) (r:R K mg ρ H x v):bg K mg ρ H (some x::env) (some v::U):=by
 refine ⟨by simp [h.len],λj y hy=>?_⟩
 cases j with
 | zero=>simp at hy;subst hy;exact ⟨v,by simp,r⟩
 | succ j=>simp at hy;simpa using h.at_ j y hy
def aX.addr {st:aa}{n:Nat}{so:SO}(s:aX K mg ρ H st) (e:st[n]?=some so) {a:Addr}(ha:ρ[n]?=some a):iD K mg ρ H so a:=by
 obtain ⟨b,hb,h⟩:=s.at_ n so e
 rw [ha] at hb
 cases hb
 exact h
def iD.some {so:SO}{a:Addr}(h:iD K mg ρ H so a):∃o,H a=some o/\True:=by
 cases so with
 | lst xs=>obtain ⟨vs,h,_⟩:=h;exact ⟨_,h,trivial⟩
 | dic ks xs=>obtain ⟨vs,h,_⟩:=h;exact ⟨_,h,trivial⟩
 | ins c ks xs=>obtain ⟨C,dx,vs,_,h,_⟩:=h;exact ⟨_,h,trivial⟩
 | fdi ks xs=>obtain ⟨o,vs,h,_⟩:=h;exact ⟨_,h,trivial⟩
 | dit ks xs=>obtain ⟨its,vs,h,_⟩:=h;exact ⟨_,h,trivial⟩
def aX.in_ {st:aa}{n:Nat}{a:Addr}(s:aX K mg ρ H st) (h:ρ[n]?=some a):∃so,st[n]?=some so/\iD K mg ρ H so a:=by
 have hl:n<st.length:=by rw [<-s.len];exact (yt.mp h).1
 refine ⟨st[n],by simp [hl],s.addr (by simp [hl]) h⟩
def iD.ext' {so:SO}{a:Addr}(e:Ext ρ H af H1) (h:iD K mg ρ H so a) (k:H1 a=H a):iD K mg af H1 so a:=by
 cases so with
 | lst xs=>obtain ⟨vs,h1,h2⟩:=h;exact ⟨vs,by rw [k];exact h1,Rs.ext e xs h2⟩
 | dic ks xs=>obtain ⟨vs,h1,h2,h3⟩:=h;exact ⟨vs,by rw [k];exact h1,Rs.ext e xs h2,h3⟩
 | ins c ks xs=>obtain ⟨C,dx,vs,h0,h1,h2,h3⟩:=h;exact ⟨C,dx,vs,h0,by rw [k];exact h1,Rs.ext e xs h2,h3⟩
 | fdi ks xs=>obtain ⟨o,vs,h1,h2,h3⟩:=h;exact ⟨o,vs,by rw [k];exact h1,Rs.ext e xs h2,h3⟩
 | dit ks xs=>obtain ⟨its,vs,h1,h2,h3,h4,h5⟩:=h;exact ⟨its,vs,by rw [k];exact h1,h2,λx hx=>e.sqT (h3 x hx),h4,Rs.ext e xs h5⟩
def Ext.new {p:Addr}{o:HO}(hp:H p=none):Ext ρ H ρ (upd H p o) :=
 ⟨⟨[],by simp⟩,λa o' h _=>by rw [yE (ic h hp)];exact h⟩
def aX.new {st:aa}{p:Addr}{o:HO}(s:aX K mg ρ H st) (hp:H p=none):aX K mg ρ (upd H p o) st :=
 ⟨s.len,s.nd,λn so e=>by
  obtain ⟨a,ha,h⟩:=s.at_ n so e
  obtain ⟨o',ho,_⟩:=h.some
  exact ⟨a,ha,h.ext' (Ext.new hp) (yE (ic ho hp))⟩⟩
def Ext.push {p:Addr}{o:HO}(hp:H p=none):Ext ρ H (ρ++[p]) (upd H p o) :=
 ⟨⟨[p],rfl⟩,λa o' h _=>by rw [yE (ic h hp)];exact h⟩
theorem aX.push {st:aa}{p:Addr}{o:HO}{so:SO}(s:aX K mg ρ H st) (hp:H p=none) (n:iD K mg (ρ++[p]) (upd H p o) so p):aX K mg (ρ++[p]) (upd H p o) (st++[so]):=by
 refine ⟨by simp [s.len],?_,λi sy e=>?_⟩
 ·refine List.nodup_append.mpr ⟨s.nd,by simp,λa ha b hb=>?_⟩
  obtain rfl:b=p:=by simpa using hb
  obtain ⟨n,hn⟩:=List.getElem?_of_mem ha
  obtain ⟨sy,_,h⟩:=s.in_ hn
  obtain ⟨o',ho,_⟩:=h.some
  exact ic ho hp
 ·by_cases hi:i<st.length
  ·rw [gi hi] at e
   obtain ⟨a,ha,h⟩:=s.at_ i sy e
   obtain ⟨o',ho,_⟩:=h.some
   exact ⟨a,(Ext.push (o:=o) hp).get ha,h.ext' (Ext.push hp) (yE (ic ho hp))⟩
  ·rw [iU (by omega)] at e
   have i9:i=st.length:=by
    have:=(yt.mp e).1
    simp at this
    omega
   subst i9
   simp at e
   subst e
   exact ⟨p,by rw [<-s.len];simp,n⟩
def Ext.write {a:Addr}{o o':HO}(ha:H a=some o) (hi:sx o=false):Ext ρ H ρ (upd H a o') :=
 ⟨⟨[],by simp⟩,λb u h m=>by
  rw [yE]
  ·exact h
  ·intro z;subst z;rw [ha] at h;cases h;rw [hi] at m;cases m⟩
def aX.write {st:aa}{n:Nat}{a:Addr}{o':HO}{so:SO}(s:aX K mg ρ H st) (hn:ρ[n]?=some a) (ew:Ext ρ H ρ (upd H a o')) (h:iD K mg ρ (upd H a o') so a):aX K mg ρ (upd H a o') (st.set n so):=by
 refine ⟨by simp [s.len],s.nd,λi sy e=>?_⟩
 rw [List.getElem?_set] at e
 by_cases cq:n=i
 ·subst cq
  rw [zF rfl] at e
  split at e
  ·cases e;exact ⟨a,hn,h⟩
  ·cases e
 ·rw [zP cq] at e
  obtain ⟨b,hb,q⟩:=s.at_ i sy e
  have ne:b≠a:=by
   intro z
   subst z
   obtain ⟨h1,h2⟩:=yt.mp hn
   obtain ⟨h3,h4⟩:=yt.mp hb
   have pw:=List.pairwise_iff_getElem.mp s.nd
   rcases Nat.lt_trichotomy n i with c|c|c
   ·exact pw n i h1 h3 c (h2.trans h4.symm)
   ·exact cq c
   ·exact pw i n h3 h1 c (h4.trans h2.symm)
  exact ⟨b,hb,q.ext' ew (yE ne)⟩
section
variable {α β:Type}{E:XK}{good:List Addr->Hp->α->aa->Prop}
def Out.ext {r:Res α}(h:Out K mg ρ H r good E) (e:Ext ρ H af H1):Out K mg af H1 r good E:=by
 cases r with
 | ok x st=>exact λah H' e' s=>h ah H' (e.trans e') s
 | err c ks xs st=>exact λah H' C d e' s x=>h ah H' C d (e.trans e') s x
 | stuck=>exact h
def Out.mono {r:Res α}{d5:List Addr->Hp->α->aa->Prop}(h:Out K mg ρ H r good E) (g:∀ah H' x st,Ext ρ H ah H'->aX K mg ah H' st->good ah H' x st->d5 ah H' x st):Out K mg ρ H r d5 E:=by
 cases r with
 | ok x st=>exact λah H' e' s=>g ah H' x st e' s (h ah H' e' s)
 | err c ks xs st=>exact h
 | stuck=>exact h
def Out.bind {r:Res β}{f:β->Mo α}(h:Out K mg ρ H (r.bind f) good E):Out K mg ρ H r (λah H' x st=>Out K mg ah H' (f x st) good E) E:=by
 cases r with
 | ok x st=>exact λah H' e' s=>Out.ext h e'
 | err c ks xs st=>exact h
 | stuck=>exact h
def Out.then {r:Res β}{f:β->Mo α}{d5:List Addr->Hp->β->aa->Prop}(h:Out K mg ρ H (r.bind f) good E) (g:∀ah H' x st,Ext ρ H ah H'->aX K mg ah H' st->Out K mg ah H' (f x st) good E->d5 ah H' x st):Out K mg ρ H r d5 E:=h.bind.mono g
def Out.now {x:α}{st:aa}(h:Out K mg ρ H (.ok x st) good E) (s:aX K mg ρ H st):good ρ H x st:=h ρ H Ext.refl s
end
end
end Mi
namespace Mi
open PySem L2 PySem.W PySem.Spec
abbrev lim:Nat:=1000000
def jo {n:Nat}(h:n<=lim):n<=sizeLine:=by rw [sizeLine_eq];show n<=16777216;exact ja h (by decide)
section
variable (K:Frag) (mg:Ab)
def tM (Er:XK) (f:Ai):TE:=λU H Q=>∃env st ρ,bg K mg ρ H env U/\aX K mg ρ H st/\Out K mg ρ H (f env st) (gV K mg Q) Er
def oj (Er:XK) (f:Ak):TT:=λU H Q=>∃env st ρ,bg K mg ρ H env U/\aX K mg ρ H st/\Out K mg ρ H (f env st) (gB Q) Er
def Nc (Er:XK) (f:Ah):TA:=λU H Q=>∃env st ρ,bg K mg ρ H env U/\aX K mg ρ H st/\Out K mg ρ H (f env st) (Nb K mg Q) Er
def sM (Er:XK) (f:Aj):TS:=λD U H=>∃env st ρ,bg K mg ρ H env U/\aX K mg ρ H st/\Out K mg ρ H (f env st) (gS K mg D) Er
end
def ME (X:Cx) (Er:XK) (e:Expr) (f:Ai):Prop:=PE X e (tM X.K X.mg Er f)
def MT (X:Cx) (Er:XK) (e:Expr) (f:Ak):Prop:=PT X e (oj X.K X.mg Er f)
def MW (X:Cx) (Er:XK) (e:Expr) (f:Ak):Prop:=PW X e (oj X.K X.mg Er f)
def MA (X:Cx) (Er:XK) (e:List Expr) (f:Ah):Prop:=PA X e (Nc X.K X.mg Er f)
def MS (X:Cx) (Er:XK) (e:Stmt) (f:Aj):Prop:=PS X e (sM X.K X.mg Er f)
def e_ (X:Cx) (Er:XK) (e:List Stmt) (f:Aj):Prop:=de X e (sM X.K X.mg Er f)
section
variable {X:Cx}{Er:XK}{e a b c:Expr}{es:List Expr}{pos:Pos}{t t':TE}
def PE.weak (h:PE X e t) (w:∀U H Q,t' U H Q->t U H Q):PE X e t':=λpins s U H Q I q=>h pins s U H Q I (w U H Q q)
def PT.weak {t t':TT}(h:PT X e t) (w:∀U H Q,t' U H Q->t U H Q):PT X e t':=λpins s U H Q I q=>h pins s U H Q I (w U H Q q)
def PW.weak {t t':TT}(h:PW X e t) (w:∀U H Q,t' U H Q->t U H Q):PW X e t':=λwh pins s U H Q I q=>h wh pins s U H Q I (w U H Q q)
def PA.weak {t t':TA}(h:PA X es t) (w:∀U H Q,t' U H Q->t U H Q):PA X es t':=λpos pins s U H Q I q=>h pos pins s U H Q I (w U H Q q)
def PS.weak {st:Stmt}{t t':TS}(h:PS X st t) (w:∀D U H,t' D U H->t D U H):PS X st t':=λpins s U H D I q=>h pins s U H D I (w D U H q)
def de.weak {st:List Stmt}{t t':TS}(h:de X st t) (w:∀D U H,t' D U H->t D U H):de X st t':=λpins s U H D I q=>h pins s U H D I (w D U H q)
def zc (i:Nat):Ai:=λenv st=>match env[i]? with
 | some (some x)=>.ok x st
 | _=>.stuck
def mC (x:PV):Ai:=λ_ st=>.ok x st
def zj (i:Nat) {x:Str} {pos:Pos} (hN:X.N[i]?=some x:=by rfl) (hv:rG X.env.scope x:=by first|exact Or.inl rfl|exact Or.inr (Or.inl rfl)|exact Or.inr (Or.inr rfl)) (hd:(x==("__debug__" : Str))=false:=by decide)
  (fH:(x==("__classdict__" : Str))=false:=by decide):ME X Er (.Name x pos) (zc i):=PE.weak (Cm hN hv hd fH) λU H Q ⟨env,st,ρ,re,rs,h⟩=>by
 unfold zc at h
 split at h
 ·rename_i x' hx
  obtain ⟨v,h1,h2⟩:=re.at_ i x' hx
  exact ⟨v,h1,h.now rs v h2⟩
 ·exact h.elim
def p_ {x:PV}{v:V}(hp:PE X e (tC v)) (hr:∀ρ H,R X.K X.mg ρ H x v):ME X Er e (mC x):=PE.weak hp λU H Q ⟨env,st,ρ,re,rs,h⟩=>h.now rs v (hr ρ H)
def zq {i:Int}{j}:ME X Er (.Constant (.int i) j pos) (mC (.int i)):=p_ Jr λ_ _=>rfl
def zS {x:Str}{j}:ME X Er (.Constant (.str x) j pos) (mC (.str x)):=p_ Ju λ_ _=>rfl
def wJ {b:Bool}{j}:ME X Er (.Constant (.bool b) j pos) (mC (.bl b)):=p_ Js λ_ _=>rfl
def zdo {j}:ME X Er (.Constant .none j pos) (mC .non):=p_ Jt λ_ _=>rfl
def fO (K:Frag) (mg:Ab) (r:R2) (op:Am):Prop:=∀ρ H st x y v w (Q:VK) (E:XK),aX K mg ρ H st->R K mg ρ H x v->R K mg ρ H y w->Out K mg ρ H (op x y st) (gV K mg Q) E->r v w H Q
def ze (op:Am) (fa fb:Ai):Ai:=λenv st=>(fa env st).bind λx aq=>(fb env aq).bind λy ay=>op x y ay
variable {fa fb fc:Ai}
def sA {r:R2}{op:Am}{K:Frag}{mg:Ab}(hm:fO K mg r op) {U:St}{H:Hp}{Q:VK}(h:tM K mg Er (ze op fa fb) U H Q):pF r (tM K mg Er fa) (tM K mg Er fb) U H Q:=by
 obtain ⟨env,st,ρ,re,rs,h⟩:=h
 exact ⟨env,st,ρ,re,rs,h.then λaf H1 x aq e1 s1 h1 v rv=>⟨env,aq,af,re.ext e1,s1,h1.then λap H2 y ay e2 s2 h2 w rw=>hm ap H2 ay x y v w Q Er s2 (R.ext e2 x rv) rw h2⟩⟩
def Nd {o:Operator}{r:R2}{op:Am}(ho:bh X (binaryOp o) r) (hm:fO X.K X.mg r op) (ha:ME X Er a fa) (hb:ME X Er b fb):ME X Er (.BinOp a o b pos) (ze op fa fb) :=
 PE.weak (Kc ho ha hb) λU H Q h=>sA hm h
def Nf {o:CmpOp}{r:R2}{op:Am}(ho:bh X (compareOp o) r) (hm:fO X.K X.mg r op) (ha:ME X Er a fa) (hb:ME X Er b fb) (hk:behindInMarks o b=false):ME X Er (.Compare a [o] [b] pos) (ze op fa fb) :=
 PE.weak (Kv ho ha hb hk) λU H Q h=>sA hm h
def gJ:PV->Mo Bool
 | .bl b,st=>.ok b st
 | _,_=>.stuck
def mB (f:Ai):Ak:=λenv st=>(f env st).bind gJ
def Ng {K:Frag}{mg:Ab}{ρ:Ae}{H:Hp}{x:PV}{st:aa}{Q:Bool->Hp->Prop}(s:aX K mg ρ H st) (h:Out K mg ρ H (gJ x st) (gB Q) Er) {v:V}(r:R K mg ρ H x v):∃k,v=.bl k/\Q k H:=by
 unfold gJ at h
 split at h
 ·cases r;exact ⟨_,rfl,h.now s⟩
 ·exact h.elim
def vV {α:Type}{K:Frag}{mg:Ab}{ρ:Ae}{H:Hp}{x:PV}{st:aa}{f:Bool->Mo α}{good:List Addr->Hp->α->aa->Prop}(h:Out K mg ρ H ((gJ x st).bind f) good Er):∃k,x=.bl k/\Out K mg ρ H (f k st) good Er:=by
 cases x with
 | bl k=>exact ⟨k,rfl,h⟩
 | _=>exact h.elim
def DM {f:Ai}{K:Frag}{mg:Ab}{U:St}{H:Hp}{Q:Bool->Hp->Prop}(h:oj K mg Er (mB f) U H Q):tM K mg Er f U H λx H1=>∃c,x=.bl c/\Q c H1:=by
 obtain ⟨env,st,ρ,re,rs,h⟩:=h
 exact ⟨env,st,ρ,re,rs,h.then λaf H1 x aq e1 s1 h1 v rv=>Ng s1 h1 rv⟩
def Nh {o:CmpOp}{r:R2}{op:Am}(ho:bh X (compareOp o) r) (hm:fO X.K X.mg r op) (ha:ME X Er a fa) (hb:ME X Er b fb) (hk:behindInMarks o b=false):MT X Er (.Compare a [o] [b] pos) (mB (ze op fa fb)) :=
 PT.weak (Kx ho ha hb hk) λU H Q h=>sA hm (DM h)
def wC (h:ME X Er e fa) (he:∀whole,isTrue e X.env whole=(do let v <-whole;standAt e.pos;holding [v] (truthy v)):=by intro _;rfl):MT X Er e (mB fa) :=
 PT.weak (Jw h he) λU H Q h=>DM h
def DN (K:Frag) (mg:Ab) (r:V->Hp->VK->Prop) (op:PV->Mo PV):Prop:=∀ρ H st x v (Q:VK) (E:XK),aX K mg ρ H st->R K mg ρ H x v->Out K mg ρ H (op x st) (gV K mg Q) E->r v H Q
def jZ (op:PV->Mo PV) (fa:Ai):Ai:=λenv st=>(fa env st).bind op
def Ni {o:UnaryOp}{r:V->Hp->VK->Prop}{op:PV->Mo PV}(ho:pE X (unaryOp o) r) (hm:DN X.K X.mg r op) (ha:ME X Er a fa):ME X Er (.UnaryOp o a pos) (jZ op fa) :=
 PE.weak (Kd ho ha) λU H Q ⟨env,st,ρ,re,rs,h⟩=>⟨env,st,ρ,re,rs,h.then λaf H1 x aq e1 s1 h1 v rv=>hm af H1 aq x v Q Er s1 rv h1⟩
variable {ga gb:Ak}{rest:List Expr}
def ki (ga gb:Ak):Ak:=λenv st=>(ga env st).bind λc aq=>if c=true then gb env aq else .ok false aq
def jI (ga gb:Ak):Ak:=λenv st=>(ga env st).bind λc aq=>if c=true then .ok true aq else gb env aq
def wx (ga:Ak):Ak:=λenv st=>(ga env st).bind λc aq=>.ok (!c) aq
def zhL (ha:MT X Er a ga):MW X Er (.BoolOp .And [a] pos) ga:=JA ha
def zbX (ha:MT X Er a ga):MW X Er (.BoolOp .Or [a] pos) ga:=JB ha
def zhM (ha:MT X Er a ga) (hb:MW X Er (.BoolOp .And (b::rest) pos) gb):MW X Er (.BoolOp .And (a::b::rest) pos) (ki ga gb) :=
 PW.weak (JC ha hb) λU H Q ⟨env,st,ρ,re,rs,h⟩=>⟨env,st,ρ,re,rs,h.then λaf H1 k aq e1 s1 h1=>by
  cases k with
  | true=>exact ⟨env,aq,af,re.ext e1,s1,h1⟩
  | false=>exact h1.now s1⟩
def zbY (ha:MT X Er a ga) (hb:MW X Er (.BoolOp .Or (b::rest) pos) gb):MW X Er (.BoolOp .Or (a::b::rest) pos) (jI ga gb) :=
 PW.weak (JD ha hb) λU H Q ⟨env,st,ρ,re,rs,h⟩=>⟨env,st,ρ,re,rs,h.then λaf H1 k aq e1 s1 h1=>by
  cases k with
  | false=>exact ⟨env,aq,af,re.ext e1,s1,h1⟩
  | true=>exact h1.now s1⟩
def za7 {op:BoolOp}(h:MW X Er (.BoolOp op es pos) ga):MT X Er (.BoolOp op es pos) ga:=PW.pt h
def zbt (ha:MT X Er a ga):MT X Er (.UnaryOp .Not a pos) (wx ga):=PT.weak (JE ha) λU H Q ⟨env,st,ρ,re,rs,h⟩=>⟨env,st,ρ,re,rs,h.then λaf H1 k aq e1 s1 h1=>h1.now s1⟩
def wY (fa fb:Ai):Ai:=λenv st=>(fa env st).bind λx aq=>(gJ x aq).bind λc ay=>if c=true then fb env ay else .ok (.bl false) ay
def mD (fa fb:Ai):Ai:=λenv st=>(fa env st).bind λx aq=>(gJ x aq).bind λc ay=>if c=true then .ok (.bl true) ay else fb env ay
def vW (fa:Ai):Ai:=λenv st=>(fa env st).bind λx aq=>(gJ x aq).bind λc ay=>.ok (.bl (!c)) ay
def zbZ {op}(h:ME X Er a fa):ME X Er (.BoolOp op [a] pos) fa:=JI h
def zb0 (ha:ME X Er a fa) (hb:ME X Er (.BoolOp .And (b::rest) pos) fb):ME X Er (.BoolOp .And (a::b::rest) pos) (wY fa fb) :=
 PE.weak (JJ ha hb) λU H Q ⟨env,st,ρ,re,rs,h⟩=>⟨env,st,ρ,re,rs,h.then λaf H1 x aq e1 s1 h1 v rv=>by
  obtain ⟨k,rfl,h1⟩:=vV h1
  cases rv
  refine ⟨k,rfl,?_⟩
  cases k with
  | true=>exact ⟨env,aq,af,re.ext e1,s1,h1⟩
  | false=>exact Out.now (x:=PV.bl false) h1 s1 _ rfl⟩
def zoP (ha:ME X Er a fa) (hb:ME X Er (.BoolOp .Or (b::rest) pos) fb):ME X Er (.BoolOp .Or (a::b::rest) pos) (mD fa fb) :=
 PE.weak (JK ha hb) λU H Q ⟨env,st,ρ,re,rs,h⟩=>⟨env,st,ρ,re,rs,h.then λaf H1 x aq e1 s1 h1 v rv=>by
  obtain ⟨k,rfl,h1⟩:=vV h1
  cases rv
  refine ⟨k,rfl,?_⟩
  cases k with
  | false=>exact ⟨env,aq,af,re.ext e1,s1,h1⟩
  | true=>exact Out.now (x:=PV.bl true) h1 s1 _ rfl⟩
def zoQ (ha:ME X Er a fa):ME X Er (.UnaryOp .Not a pos) (vW fa) :=
 PE.weak (JL ha) λU H Q ⟨env,st,ρ,re,rs,h⟩=>⟨env,st,ρ,re,rs,h.then λaf H1 x aq e1 s1 h1 v rv=>by
  obtain ⟨k,rfl,h1⟩:=vV h1
  cases rv
  exact ⟨k,rfl,Out.now (x:=PV.bl (!k)) h1 s1 _ rfl⟩⟩
def zo:Ah:=λ_ st=>.ok [] st
def zd (f:Ai) (fs:Ah):Ah:=λenv st=>(f env st).bind λx aq=>(fs env aq).bind λxs ay=>.ok (x::xs) ay
variable {fs:Ah}
def zt:MA X Er [] zo:=PA.weak rQ λU H Q ⟨env,st,ρ,re,rs,h⟩=>h.now rs [] rfl
def DO (ha:ME X Er e fa) (hr:MA X Er es fs) (hs:starEach (e::es) X.env=(false,eval e X.env)::starEach es X.env:=by rfl):MA X Er (e::es) (zd fa fs) :=
 PA.weak (rR ha hr hs) λU H Q ⟨env,st,ρ,re,rs,h⟩=>⟨env,st,ρ,re,rs,h.then λaf H1 x aq e1 s1 h1 v rv=>⟨env,aq,af,re.ext e1,s1,h1.then λap H2 xs ay e2 s2 h2 vs vX =>
  h2.now s2 (v::vs) ⟨v,vs,rfl,R.ext e2 x rv,vX⟩⟩⟩
def zC (fs:Ah):Ai:=λenv st=>(fs env st).bind λxs aq=>if xs.length<=lim then .ok (.tup xs) aq else .stuck
def yU (fs:Ah):Ai:=λenv st=>(fs env st).bind λxs aq=>if xs.length<=lim then .ok (.ref aq.length) (aq++[.lst xs]) else .stuck
def R.tup_of {K:Frag}{mg:Ab}{ρ:Ae}{H:Hp}{xs:An}{vs:List V}{p:Addr}(r:Rs K mg ρ H xs vs) (hp:H p=none):R K mg ρ (upd H p (.tup vs)) (.tup xs) (.ref p) :=
 ⟨p,vs,rfl,aW.of jf,Rs.ext (Ext.new hp) xs r⟩
def zM {x1}(h:MA X Er es fs):ME X Er (.Tuple es x1 pos) (zC fs) :=
 PE.weak (K7 h) λU H Q ⟨env,st,ρ,re,rs,h⟩=>⟨env,st,ρ,re,rs,h.then λaf H1 xs aq e1 s1 h1 vs rv=>by
  split at h1
  ·rename_i hl
   exact ⟨by rw [<-rv.len];exact jo hl,λp hp=>h1 af _ (Ext.new hp) (s1.new hp) _ (R.tup_of rv hp)⟩
  ·exact h1.elim⟩
def Out.newList {K:Frag}{mg:Ab}{ρ:Ae}{H:Hp}{st:aa}{xs:An}{vs:List V}{p:Addr}{Q:VK}(h:Out K mg ρ H (.ok (.ref st.length) (st++[.lst xs])) (gV K mg Q) Er) (s:aX K mg ρ H st) (r:Rs K mg ρ H xs vs) (hp:H p=none):Q (.ref p) (upd H p (.lst vs)) :=
 h (ρ++[p]) _ (Ext.push hp) (s.push hp ⟨vs,jf,Rs.ext (Ext.push hp) xs r⟩) _ ⟨p,rfl,by rw [<-s.len];simp⟩
def jg (h:MA X Er es fs):ME X Er (.List es pos) (yU fs) :=
 PE.weak (K8 h) λU H Q ⟨env,st,ρ,re,rs,h⟩=>⟨env,st,ρ,re,rs,h.then λaf H1 xs aq e1 s1 h1 vs rv=>by
  split at h1
  ·rename_i hl
   exact ⟨by rw [<-rv.len];exact jo hl,λp hp=>Out.newList h1 s1 rv hp⟩
  ·exact h1.elim⟩
def Nj {r:R2}{op:Am}(ho:fL X r) (hm:fO X.K X.mg r op) (ha:ME X Er a fa) (hb:ME X Er b fb) (hs:gw b:=by exact λ_ _=>rfl):ME X Er (.Subscript a b pos) (ze op fa fb) :=
 PE.weak (LB ho ha hb hs) λU H Q h=>sA hm h
end
end Mi
namespace HT
open PySem PySem.Spec PyProof.Rows
section
variable {prog:Program}{w:World}{A:Around}{E:Aa}{s:Shared}
def getItem_tuple_all {t sl:Addr}{items:Array Value}{vl vu:Value}{lo hi:Option Int}{Q:Aa}(ht:IsTup s.heap t items) (hs:s.heap.IsSliceOf sl vl vu .none) (pl:IsPart vl lo) (pu:IsPart vu hi)
  (hw:sIx items.size 0 lo=0/\sIx items.size items.size hi=items.size) (h:Q (.ref t) s)
  (hsz:items.size<=sizeLine):wpAny (model prog w) A (getItem (.ref t) (.ref sl)) Q E s:=by
 obtain ⟨os,lX,rS,pK⟩:=id hs
 have vn:s.TypeIs (.ref sl) "slice" := ⟨os,lX,rS⟩
 unfold getItem
 try with_reducible refine wA ?_
 first|refine zx (zZ ?_)|skip
 refine zx (wpAny_sequenceKey ht.typeIs (by decide) ?_)
 refine zx (wpAny_callSpecial?_slot (name:=Str.ofString "__getitem__") ht.typeIs PyProof.Rows.slot_tuple_getitem
  (j9 PyProof.Rows.slot_tuple_getitem ht.typeIs entry_tuple_getitem ?_ (args_tuple_getitem _ _)))
 show wpAny _ _ (Builtin.Tuple.tupleItemsOf (.ref t) >>= _) _ _ s
 refine zx (tupleItemsOf_ ht ?_)
 refine zx (wpAny_typeOf vn ?_)
 rw [zF (by decide)]
 refine zx (CP hs pl pu ?_)
 have DP:(((sIx items.size 0 lo:Nat):Int)==0&&(1:Int)==1&&(sIx items.size items.size hi-sIx items.size 0 lo)==items.size)=true:=by
  rw [hw.1,hw.2];simp
 show wpAny _ _ (if (((sIx items.size 0 lo:Nat):Int)==0&&(1:Int)==1&&(sIx items.size items.size hi-sIx items.size 0 lo)==items.size)=true then _ else _) _ _ s
 rw [zF DP]
 unfold Builtin.Tuple.tupleIsExact
 refine zx (zx (wpAny_typeOf ht.typeIs (zZ ?_)))
 rw [zF (by decide)]
 exact zx (lR (zZ ⟨_,rfl,zZ h⟩))
def cat_tup0 {t b:Addr}{ws:Af}{Q:Aa}(ht:IsTup s.heap t #[]) (hb:IsTup s.heap b ws.toArray) (h1:Q (.ref b) s):wpAny (model prog w) A (binaryOp .Add (.ref t) (.ref b)) Q E s:=by
 obtain ⟨⟨cls,dd,data,sl⟩,ho,hc,n,hd⟩:=id ht
 obtain ⟨⟨uF,lV,data2,lW⟩,ho2,gv,n2,hd2⟩:=id hb
 simp only at hc hd gv hd2
 subst hc hd gv hd2
 exact concat_meets ⟨_,ho,rfl⟩ ⟨_,ho2,rfl⟩ noFill_tuple_add seq_tuple_add PySem.F.slot_tuple_add PySem.F.entry_tuple_add (PySem.F.args_tuple_add_2 _ _)
   (tuple_addW0 t b #[] ws.toArray n n2 dd lV sl lW (by simp)) ⟨ho,ho2,h1⟩
end
end HT
namespace Mi
open PySem L2 PySem.W PySem.Spec
section
variable {X:Cx}{Er:XK}{K:Frag}{mg:Ab}
def cO (X:Cx) (o:Operator) (op:Am):Prop:=∃r,bh X (binaryOp o) r/\fO X.K X.mg r op
def b_ (X:Cx) (o:CmpOp) (op:Am):Prop:=∃r,bh X (compareOp o) r/\fO X.K X.mg r op
def k8 (X:Cx) (op:Am):Prop:=∃r,fL X r/\fO X.K X.mg r op
def uJ (X:Cx) (o:UnaryOp) (op:PV->Mo PV):Prop:=∃r,pE X (unaryOp o) r/\DN X.K X.mg r op
variable {a b c e:Expr}{es:List Expr}{pos:Pos}{fa fb fc:Ai}{fs:Ah}
def zA {o:Operator}{op:Am}(h:cO X o op) (ha:ME X Er a fa) (hb:ME X Er b fb):ME X Er (.BinOp a o b pos) (ze op fa fb):=let ⟨_,h1,h2⟩:=h;Nd h1 h2 ha hb
def wK {o:CmpOp}{op:Am}(h:b_ X o op) (ha:ME X Er a fa) (hb:ME X Er b fb) (hk:behindInMarks o b=false:=by first|exact nF _|with_unfolding_all rfl):ME X Er (.Compare a [o] [b] pos) (ze op fa fb):=let ⟨_,h1,h2⟩:=h;Nf h1 h2 ha hb hk
def yv {o:CmpOp}{op:Am}(h:b_ X o op) (ha:ME X Er a fa) (hb:ME X Er b fb) (hk:behindInMarks o b=false:=by first|exact nF _|with_unfolding_all rfl):MT X Er (.Compare a [o] [b] pos) (mB (ze op fa fb)):=let ⟨_,h1,h2⟩:=h;Nh h1 h2 ha hb hk
def zJ {op:Am}(h:k8 X op) (ha:ME X Er a fa) (hb:ME X Er b fb) (hs:gw b:=by exact λ_ _=>rfl):ME X Er (.Subscript a b pos) (ze op fa fb):=let ⟨_,h1,h2⟩:=h;Nj h1 h2 ha hb hs
def Nk {o:UnaryOp}{op:PV->Mo PV}(h:uJ X o op) (ha:ME X Er a fa):ME X Er (.UnaryOp o a pos) (jZ op fa):=let ⟨_,h1,h2⟩:=h;Ni h1 h2 ha
def Out.ifp {α:Type}{ρ:Ae}{H:Hp}{p:Prop} [Decidable p] {r:Res α}{good:List Addr->Hp->α->aa->Prop}(h:Out K mg ρ H (if p then r else .stuck) good Er):p/\Out K mg ρ H r good Er:=by
 split at h
 ·rename_i hp;exact ⟨hp,h⟩
 ·exact h.elim
def yi {α:Type}(st:aa) (n:Nat) (k:List PV->Res α):Res α:=match st[n]? with
 | some (.lst xs)=>k xs
 | _=>.stuck
def jS {α:Type}(st:aa) (n:Nat) (k:List Str->List PV->Res α):Res α:=match st[n]? with
 | some (.dic ks xs)=>k ks xs
 | _=>.stuck
def j7 {α:Type}(st:aa) (n:Nat) (k:Str->List Str->List PV->Res α):Res α:=match st[n]? with
 | some (.ins c ks xs)=>k c ks xs
 | _=>.stuck
def jp {α:Type}{ρ:Ae}{H:Hp}{st:aa}{n:Nat}{k:List PV->Res α}{good:List Addr->Hp->α->aa->Prop}(h:Out K mg ρ H (yi st n k) good Er):∃xs,st[n]?=some (.lst xs)/\Out K mg ρ H (k xs) good Er:=by
 unfold yi at h
 split at h
 ·rename_i xs e;exact ⟨xs,e,h⟩
 ·exact h.elim
def Nl {α:Type}{ρ:Ae}{H:Hp}{st:aa}{n:Nat}{k:List Str->List PV->Res α}{good:List Addr->Hp->α->aa->Prop}(h:Out K mg ρ H (jS st n k) good Er):∃ks xs,st[n]?=some (.dic ks xs)/\Out K mg ρ H (k ks xs) good Er:=by
 unfold jS at h
 split at h
 ·rename_i ks xs e;exact ⟨ks,xs,e,h⟩
 ·exact h.elim
def DQ {α:Type}{ρ:Ae}{H:Hp}{st:aa}{n:Nat}{k:Str->List Str->List PV->Res α}{good:List Addr->Hp->α->aa->Prop}(h:Out K mg ρ H (j7 st n k) good Er):∃c ks xs,st[n]?=some (.ins c ks xs)/\Out K mg ρ H (k c ks xs) good Er:=by
 unfold j7 at h
 split at h
 ·rename_i c ks xs e;exact ⟨c,ks,xs,e,h⟩
 ·exact h.elim
def opI (C:Int->Int->Bool) (g:Int->Int->Int):Am
 | .int i,.int j,st=>if C i j=true then .ok (.int (g i j)) st else .stuck
 | _,_,_=>.stuck
def kj {C:Int->Int->Bool}{g:Int->Int->Int}{P:Int->Int->Prop}(hC:∀i j,C i j=true->P i j):fO K mg (rI P λi j=>.int (g i j)) (opI C g):=by
 intro ρ H st x y v w Q E s rx ry h
 cases x with
 | int i =>
  cases y with
  | int j =>
   cases rx;cases ry
   obtain ⟨c,h⟩:=Out.ifp h
   exact ⟨i,j,rfl,rfl,hC i j c,h.now s _ rfl⟩
  | _=>exact h.elim
 | _=>exact h.elim
abbrev c0:Int->Int->Bool:=λ_ _=>true
def vY {g:Int->Int->V}{f:Value->Value->Sem Value}(h:bh X f (iq g)):bh X f (rI (λ_ _=>True) g):=λpins s U H x y v u Q I rx ry ⟨i,j,h1,h2,_,q⟩=>h pins s U H x y v u Q I rx ry ⟨i,j,h1,h2,q⟩
abbrev jC:=opI c0 λi j=>i-j
abbrev gK:Int->Int->Bool:=λi j=>(decide (-(2 ^ 64)<i)&&decide (i<2 ^ 64))||(decide (-(2 ^ 64)<j)&&decide (j<2 ^ 64))
abbrev DR:=opI gK λi j=>i*j
abbrev dC:Int->Int->Bool:=λi j=>decide (0<=j)&&decide (j<=1000000)&&decide (i.natAbs<2 ^ 64)
abbrev wZ:=opI dC λi j=>i ^ j.toNat
abbrev vZ:Int->Int->Bool:=λ_ j=>decide (j≠0)
def yY (i j:Int):Int:=if 0<j then i%j else i.fmod j
abbrev zV:=opI vZ yY
abbrev v5:Int->Int->Bool:=λ_ j=>decide (j≠0)&&decide (j.natAbs<2 ^ 200)
def jD (i j:Int):Int:=if 0<j then i/j else i.fdiv j
abbrev yO:=opI v5 jD
theorem Nn (i j:Int):yY i j=i.fmod j:=by
 unfold yY;split
 ·rename_i h;rw [Int.fmod_eq_emod_of_nonneg _ (by omega)]
 ·rfl
def Np (i j:Int):jD i j=i.fdiv j:=by
 unfold jD;split
 ·rename_i h;rw [Int.fdiv_eq_ediv_of_nonneg _ (by omega)]
 ·rfl
def wL:cO X .Sub jC:=⟨_,vY Kg,kj λ_ _ _=>trivial⟩
def Nq:cO X .Mult DR:=⟨_,Kh,kj λi j h=>by simpa [gK,nE] using h⟩
def za8:cO X .Pow wZ:=⟨_,Kj,kj λi j h=>by simp [dC] at h;exact ⟨h.1.1,h.1.2,h.2⟩⟩
def yp:cO X .Mod zV:=⟨_,Ki,by
 have h:(λi j=>V.int (i.fmod j))=λi j=>V.int (yY i j):=by funext i j;rw [Nn]
 rw [h];exact kj λi j h=>by simpa [vZ] using h⟩
theorem Nr {y:Int}(h:y.natAbs<2 ^ 200):y.natAbs.log2<9000:=by
 by_cases h0:y.natAbs=0
 ·rw [h0];decide
 ·have:=(Nat.log2_lt h0).mpr h
  omega
def Nt:bh X (binaryOp .FloorDiv) (rI (λ_ j=>j≠0/\j.natAbs<2 ^ 200) λi j=>.int (i.fdiv j)):=L2.opI λ_ _ _ _ _ _ _ hc q=>PyProof.Rows.floordiv_int hc.1 q (.inl (PyProof.noPylong_of_log2 (Nr hc.2)))
def jw:cO X .FloorDiv yO:=⟨_,Nt,by
 have h:(λi j=>V.int (i.fdiv j))=λi j=>V.int (jD i j):=by funext i j;rw [Np]
 rw [h];exact kj λi j h=>by simpa [v5] using h⟩
def qc:PV->Mo PV
 | .int i,st=>.ok (.int (-i)) st
 | _,_=>.stuck
def Nu:uJ X .USub qc:=⟨_,Kq,by
 intro ρ H st x v Q E s rx h
 cases x with
 | int i=>cases rx;exact ⟨i,rfl,Out.now (x:=PV.int (-i)) h s _ rfl⟩
 | _=>exact h.elim⟩
def ya:Am
 | .int i,.int j,st=>.ok (.int (i+j)) st
 | .str x,.str y,st=>if x.length+y.length<=lim then .ok (.str (x++y)) st else .stuck
 | .tup xs,.tup ys,st=>if xs.length+ys.length<=lim then .ok (.tup (xs++ys)) st else .stuck
 | .ref n,.ref m,st=>yi st n λxs=>yi st m λys=>if xs.length+ys.length<=lim then .ok (.ref st.length) (st++[.lst (xs++ys)]) else .stuck
 | _,_,_=>.stuck
def Nv (K:Frag):R2:=λx y H Q=>∃a b ys,x=.ref a/\y=.ref b/\aW K H a []/\aW K H b ys/\Q (.ref b) H
def Nw:bh X (binaryOp .Add) (Nv X.K):=by
 intro pins s U H x y v u Q I rx ry h
 obtain ⟨a,b,ys,rfl,rfl,h1,h2,q⟩:=h
 cases rx;cases ry
 obtain ⟨i1,r1,p1,_⟩:=I.tuple h1
 obtain ⟨i2,r2,p2,_⟩:=I.tuple h2
 cases r1
 exact HT.cat_tup0 p1 p2 ⟨.ref b,H,I,rfl,q⟩
def yB:cO X .Add ya:=⟨_,Kf.or (Ky.or (Nw.or (Ly.or L4))),by
 intro ρ H st x y v w Q E s rx ry h
 cases x with
 | int i =>
  cases y with
  | int j=>cases rx;cases ry;exact .inl ⟨i,j,rfl,rfl,Out.now (x:=PV.int (i+j)) h s _ rfl⟩
  | _=>exact h.elim
 | str i =>
  cases y with
  | str j =>
   cases rx;cases ry
   obtain ⟨c,h⟩:=Out.ifp h
   exact .inr (.inl ⟨i,j,rfl,rfl,jo c,h.now s _ rfl⟩)
  | _=>exact h.elim
 | tup xs =>
  cases y with
  | tup ys =>
   obtain ⟨p,vs,rfl,h1,h2⟩:=rx
   obtain ⟨q,ws,rfl,h3,h4⟩:=ry
   obtain ⟨c,h⟩:=Out.ifp h
   cases xs with
   | nil =>
    cases h2
    exact .inr (.inr (.inl ⟨p,q,ws,rfl,rfl,h1,h3,h.now s _ ⟨q,ws,rfl,h3,h4⟩⟩))
   | cons x0 om =>
    refine .inr (.inr (.inr (.inl ⟨p,q,vs,ws,rfl,rfl,h1,h3,?_,?_,λe=>?_,λ_ l hl=>?_⟩)))
    ·obtain ⟨v0,r0,e0,_⟩:=h2;rw [e0];simp
    ·rw [<-h2.len,<-h4.len];exact jo c
    ·subst e
     have:ys=[]:=by have:=h4.len;simpa using this
     subst this
     exact h.now s _ ⟨p,vs,rfl,h1,by simpa using h2⟩
    ·exact h ρ _ (Ext.new hl) (s.new hl) _ (R.tup_of (h2.append h4) hl)
  | _=>exact h.elim
 | ref n =>
  cases y with
  | ref m =>
   obtain ⟨p,rfl,hp⟩:=rx
   obtain ⟨q,rfl,hq⟩:=ry
   obtain ⟨xs,e1,h⟩:=jp h
   obtain ⟨ys,e2,h⟩:=jp h
   obtain ⟨c,h⟩:=Out.ifp h
   obtain ⟨vs,h1,h2⟩:=s.addr e1 hp
   obtain ⟨ws,h3,h4⟩:=s.addr e2 hq
   exact .inr (.inr (.inr (.inr ⟨p,q,vs,ws,rfl,rfl,h1,h3,by rw [<-h2.len,<-h4.len];exact jo c,λl hl=>Out.newList h s (h2.append h4) hl⟩)))
  | _=>exact h.elim
 | _=>exact h.elim⟩
def sC (g:Int->Int->Bool):Am
 | .int i,.int j,st=>.ok (.bl (g i j)) st
 | _,_,_=>.stuck
def DS {g:Int->Int->Bool}:fO K mg (iq λi j=>.bl (g i j)) (sC g):=by
 intro ρ H st x y v w Q E s rx ry h
 cases x with
 | int i =>
  cases y with
  | int j=>cases rx;cases ry;exact ⟨i,j,rfl,rfl,Out.now (x:=PV.bl (g i j)) h s _ rfl⟩
  | _=>exact h.elim
 | _=>exact h.elim
abbrev oLt:=sC λi j=>decide (i<j)
abbrev iE:=sC λi j=>decide (j<i)
def zcz:b_ X .Lt oLt:=⟨_,Kr,DS⟩
def zdq:b_ X .Gt iE:=⟨_,Ks,DS⟩
def d6:PV->Bool
 | .non=>true
 | _=>false
def DT:Am
 | x,.non,st=>.ok (.bl (!d6 x)) st
 | _,_,_=>.stuck
def Nx {ρ:Ae}{H:Hp}{x:PV}{v:V}(r:R K mg ρ H x v):decide (v=.non)=d6 x:=by
 cases x with
 | non=>cases r;rfl
 | bl _=>cases r;rfl
 | int _=>cases r;rfl
 | str _=>cases r;rfl
 | ty _=>cases r;rfl
 | tup _=>obtain ⟨_,_,rfl,_⟩:=r;rfl
 | frl _=>obtain ⟨_,_,rfl,_⟩:=r;rfl
 | ref _=>obtain ⟨_,rfl,_⟩:=r;rfl
 | fn _=>obtain ⟨_,rfl,_⟩:=r;rfl
 | kd _ _=>obtain ⟨_,_,_,rfl,_⟩:=r;rfl
 | exo _ _ _=>obtain ⟨_,_,_,_,rfl,_⟩:=r;rfl
def Ny:b_ X .IsNot DT:=⟨_,Ku,by
 intro ρ H st x y v w Q E s rx ry h
 cases y with
 | non=>cases ry;exact ⟨rfl,by rw [Nx rx];exact Out.now (x:=PV.bl (!d6 x)) h s _ rfl⟩
 | _=>exact h.elim⟩
def v7 {ρ:Ae}{H:Hp}{xs:An}{vs:List V}{i:Int}{x:PV}(r:Rs K mg ρ H xs vs) (h:dh xs i=some x):∃v,dh vs i=some v/\R K mg ρ H x v:=by
 unfold dh at h ⊢
 rw [<-r.len]
 cases hj:iY xs.length i with
 | none=>rw [hj] at h;cases h
 | some j =>
  rw [hj] at h
  obtain ⟨v,h1,h2⟩:=r.get (show xs[j]?=some x from h)
  exact ⟨v,h1,h2⟩
def b3:Option PV->Mo PV
 | some x,st=>.ok x st
 | none,_=>.stuck
def v8:Am
 | .tup xs,.int i,st=>b3 (dh xs i) st
 | .frl xs,.int i,st=>b3 (dh xs i) st
 | .str z,.int i,st=>if z.length<=lim then b3 ((dh z.cps.toList i).map λc=>.str ⟨#[c]⟩) st else .stuck
 | .ref n,.int i,st=>yi st n λxs=>b3 (dh xs i) st
 | _,_,_=>.stuck
def mE {ρ:Ae}{H:Hp}{o:Ao}{st:aa}{good}(h:Out K mg ρ H (b3 o st) good Er):∃x,o=some x/\Out K mg ρ H (.ok x st) good Er:=by
 cases o with
 | some x=>exact ⟨x,rfl,h⟩
 | none=>exact h.elim
def Nz:k8 X v8:=⟨_,LG,by
 intro ρ H st x y v w Q E s rx ry h
 cases x with
 | tup xs =>
  cases y with
  | int i =>
   cases ry
   obtain ⟨p,vs,rfl,h1,h2⟩:=rx
   obtain ⟨x,e,h⟩:=mE h
   obtain ⟨v,h3,h4⟩:=v7 h2 e
   exact .inr (.inl ⟨p,vs,i,v,rfl,rfl,h1,h3,h.now s _ h4⟩)
  | _=>exact h.elim
 | frl xs =>
  cases y with
  | int i =>
   cases ry
   obtain ⟨p,vs,rfl,h1,h2⟩:=rx
   obtain ⟨x,e,h⟩:=mE h
   obtain ⟨v,h3,h4⟩:=v7 h2 e
   exact .inl ⟨p,vs,i,v,rfl,rfl,h1.sq,h3,h.now s _ h4⟩
  | _=>exact h.elim
 | str z =>
  cases y with
  | int i =>
   cases ry;cases rx
   obtain ⟨c,h⟩:=Out.ifp h
   obtain ⟨x,e,h⟩:=mE h
   cases hc:dh z.cps.toList i with
   | none=>rw [hc] at e;cases e
   | some k =>
    rw [hc] at e
    cases e
    exact .inr (.inr ⟨z,i,k,rfl,rfl,jo c,hc,h.now s _ rfl⟩)
  | _=>exact h.elim
 | ref n =>
  cases y with
  | int i =>
   cases ry
   obtain ⟨p,rfl,hp⟩:=rx
   obtain ⟨xs,e1,h⟩:=jp h
   obtain ⟨vs,h1,h2⟩:=s.addr e1 hp
   obtain ⟨x,e,h⟩:=mE h
   obtain ⟨v,h3,h4⟩:=v7 h2 e
   exact .inl ⟨p,vs,i,v,rfl,rfl,aQ.of h1,h3,h.now s _ h4⟩
  | _=>exact h.elim
 | _=>exact h.elim⟩
end
mutual
def plain:PV->Bool
 | .non=>true
 | .bl _=>true
 | .int _=>true
 | .str _=>true
 | .tup xs=>bo xs
 | _=>false
def bo:List PV->Bool
 | []=>true
 | x::xs=>plain x&&bo xs
end
mutual
def dep:PV->Nat
 | .tup xs=>cg xs+1
 | _=>0
def cg:List PV->Nat
 | []=>0
 | x::xs=>max (dep x) (cg xs)
end
mutual
def a_:PV->PV->Bool
 | .non,.non=>true
 | .bl a,.bl b=>a==b
 | .bl a,.int b=>(if a then 1 else 0)==b
 | .int a,.bl b=>a==(if b then 1 else 0)
 | .int a,.int b=>a==b
 | .str a,.str b=>a==b
 | .tup xs,.tup ys=>cW xs ys
 | _,_=>false
def cW:List PV->List PV->Bool
 | [],[]=>true
 | x::xs,y::ys=>a_ x y&&cW xs ys
 | _,_=>false
end
section
variable {X:Cx}{Er:XK}{K:Frag}{mg:Ab}{ρ:Ae}{pins:Ac}{U:L2.St}{H:Hp}{s:Shared}
mutual
theorem DU (I:Inv X pins U H s):∀(x y:PV) {v:V},plain x=true->plain y=true->R X.K mg ρ H x v->R X.K mg ρ H y v->a_ x y=true
 | .non,y,v,_,py,rx,ry=>by
  cases rx
  cases y with
  | non=>rfl
  | tup ys=>obtain ⟨_,_,e,_⟩:=ry;cases e
  | bl _=>cases ry
  | int _=>cases ry
  | str _=>cases ry
  | _=>cases py
 | .bl a,y,v,_,py,rx,ry=>by
  cases rx
  cases y with
  | bl b=>cases ry;simp [a_]
  | tup ys=>obtain ⟨_,_,e,_⟩:=ry;cases e
  | non=>cases ry
  | int _=>cases ry
  | str _=>cases ry
  | _=>cases py
 | .int a,y,v,_,py,rx,ry=>by
  cases rx
  cases y with
  | int b=>cases ry;simp [a_]
  | tup ys=>obtain ⟨_,_,e,_⟩:=ry;cases e
  | non=>cases ry
  | bl _=>cases ry
  | str _=>cases ry
  | _=>cases py
 | .str a,y,v,_,py,rx,ry=>by
  cases rx
  cases y with
  | str b=>cases ry;simp [a_]
  | tup ys=>obtain ⟨_,_,e,_⟩:=ry;cases e
  | non=>cases ry
  | bl _=>cases ry
  | int _=>cases ry
  | _=>cases py
 | .tup xs,y,v,px,py,rx,ry=>by
  obtain ⟨a,vs,rfl,h1,h2⟩:=rx
  cases y with
  | tup ys =>
   obtain ⟨b,ws,e,h3,h4⟩:=ry
   cases e
   have:=I.tuple_inj h1 h3
   subst this
   exact k_ I xs ys px py h2 h4
  | non=>cases ry
  | bl _=>cases ry
  | int _=>cases ry
  | str _=>cases ry
  | _=>cases py
 | .ty _,_,_,px,_,_,_=>by cases px
 | .frl _,_,_,px,_,_,_=>by cases px
 | .ref _,_,_,px,_,_,_=>by cases px
 | .fn _,_,_,px,_,_,_=>by cases px
 | .kd _ _,_,_,px,_,_,_=>by cases px
 | .exo _ _ _,_,_,px,_,_,_=>by cases px
theorem k_ (I:Inv X pins U H s):∀(xs ys:An) {vs:List V},bo xs=true->bo ys=true->Rs X.K mg ρ H xs vs->Rs X.K mg ρ H ys vs->cW xs ys=true
 | [],ys,vs,_,py,rx,ry=>by
  cases rx
  cases ys with
  | nil=>rfl
  | cons y ys=>obtain ⟨_,_,e,_⟩:=ry;cases e
 | x::xs,ys,vs,px,py,rx,ry=>by
  obtain ⟨v,r,rfl,h1,h2⟩:=rx
  cases ys with
  | nil=>cases ry
  | cons y ys =>
   obtain ⟨v',r',e,h3,h4⟩:=ry
   cases e
   simp only [bo,iT] at px py
   simp only [cW,iT]
   exact ⟨DU I x y px.1 py.1 h1 h3,k_ I xs ys px.2 py.2 h2 h4⟩
end
def fE (xs ys:An) (j:Nat):Bool:=match xs[j]?,ys[j]? with
 | some x,some y=>a_ x y
 | _,_=>true
theorem DV:∀(xs ys:An),((List.range (min xs.length ys.length)).all (fE xs ys)&&xs.length==ys.length)=cW xs ys
 | [],[]=>rfl
 | [],y::ys=>by simp [cW]
 | x::xs,[]=>by simp [cW]
 | x::xs,y::ys=>by
  have ih:=DV xs ys
  have e1:min (x::xs).length (y::ys).length=min xs.length ys.length+1:=by simp only [jP];omega
  have e2:((x::xs).length==(y::ys).length)=(xs.length==ys.length):=by
   rw [Bool.eq_iff_iff];simp
  rw [e1,e2,List.range_succ_eq_map,List.all_cons,List.all_map]
  have e3:(fE (x::xs) (y::ys)∘Nat.succ)=fE xs ys:=by
   funext j
   simp [fE]
  rw [e3,Bool.and_assoc,ih]
  simp [cW,fE]
theorem v9:∀{xs:An}{i:Nat}{x:PV},xs[i]?=some x->dep x<=cg xs
 | [],_,_,e=>by simp at e
 | y::xs,0,x,e=>by simp at e;subst e;simp only [cg];omega
 | y::xs,i+1,x,e=>by
  simp at e
  have:=v9 e
  simp only [cg];omega
theorem sD:∀{xs:An}{i:Nat}{x:PV},bo xs=true->xs[i]?=some x->plain x=true
 | [],_,_,_,e=>by simp at e
 | y::xs,0,x,p,e=>by simp at e;subst e;simp only [bo,iT] at p;exact p.1
 | y::xs,i+1,x,p,e=>by
  simp at e
  simp only [bo,iT] at p
  exact sD p.2 e
def qd (A:Around):A.in1.units=A.units+1:=rfl
theorem sE (I:Inv X pins U H s):∀(n:Nat) (x y:PV) {v w:V}{u u':Value}(A:Around),dep x<=n->plain x=true->plain y=true->R X.K mg ρ H x v->R X.K mg ρ H y w->RelV v u->RelV w u'->A.units+n<cLine ->
  SeqAt.EqAt A s u u' (a_ x y)/\SeqAt.RcAt A s u u' (a_ x y)/\SeqAt.RcNeAt A s u u' (!a_ x y):=by
 intro n
 induction n with
 | zero =>
  intro x y v w u u' A hd px py rx ry rv rw hu
  cases x with
  | tup xs=>simp only [dep] at hd;omega
  | non =>
   cases rx;cases rv
   cases y with
   | non=>cases ry;cases rw;exact ⟨.same _,.none_none,.none_none⟩
   | bl b=>cases ry;cases rw;exact ⟨.none_bool b,.none_bool b,.none_bool b⟩
   | int b=>cases ry;obtain ⟨t,rfl⟩:=rw;exact ⟨.none_int b t,.none_int b t,.none_int b t⟩
   | str b=>cases ry;obtain ⟨t,rfl⟩:=rw;exact ⟨.none_str b t,.none_str b t,.none_str b t⟩
   | tup ys =>
    obtain ⟨p,ws,rfl,h1,h2⟩:=ry
    cases rw
    obtain ⟨its,_,pl,_⟩:=I.tuple h1
    exact ⟨.none_tuple pl (by omega),.none_tuple pl (by omega),.none_tuple pl (by omega)⟩
   | _=>cases py
  | bl a =>
   cases rx;cases rv
   cases y with
   | non=>cases ry;cases rw;exact ⟨.bool_none a,.bool_none a,.bool_none a⟩
   | bl b=>cases ry;cases rw;exact ⟨.bool_bool a b,.bool_bool a b,.bool_bool a b⟩
   | int b=>cases ry;obtain ⟨t,rfl⟩:=rw;exact ⟨.bool_int a b t,.bool_int a b t,.bool_int a b t⟩
   | str b=>cases ry;obtain ⟨t,rfl⟩:=rw;exact ⟨.bool_str a b t,.bool_str a b t,.bool_str a b t⟩
   | tup ys =>
    obtain ⟨p,ws,rfl,h1,h2⟩:=ry
    cases rw
    obtain ⟨its,_,pl,_⟩:=I.tuple h1
    exact ⟨.bool_tuple a pl (by omega),.bool_tuple a pl (by omega),.bool_tuple a pl (by omega)⟩
   | _=>cases py
  | int a =>
   cases rx;obtain ⟨t0,rfl⟩:=rv
   cases y with
   | non=>cases ry;cases rw;exact ⟨.int_none a t0,.int_none a t0,.int_none a t0⟩
   | bl b=>cases ry;cases rw;exact ⟨.int_bool a t0 b,.int_bool a t0 b,.int_bool a t0 b⟩
   | int b=>cases ry;obtain ⟨t,rfl⟩:=rw;exact ⟨.int_int a t0 b t,.int_int a t0 b t,.int_int a t0 b t⟩
   | str b=>cases ry;obtain ⟨t,rfl⟩:=rw;exact ⟨.int_str a t0 b t,.int_str a t0 b t,.int_str a t0 b t⟩
   | tup ys =>
    obtain ⟨p,ws,rfl,h1,h2⟩:=ry
    cases rw
    obtain ⟨its,_,pl,_⟩:=I.tuple h1
    exact ⟨.int_tuple a t0 pl (by omega),.int_tuple a t0 pl (by omega),.int_tuple a t0 pl (by omega)⟩
   | _=>cases py
  | str a =>
   cases rx;obtain ⟨t0,rfl⟩:=rv
   cases y with
   | non=>cases ry;cases rw;exact ⟨.str_none a t0,.str_none a t0,.str_none a t0⟩
   | bl b=>cases ry;cases rw;exact ⟨.str_bool a t0 b,.str_bool a t0 b,.str_bool a t0 b⟩
   | int b=>cases ry;obtain ⟨t,rfl⟩:=rw;exact ⟨.str_int a t0 b t,.str_int a t0 b t,.str_int a t0 b t⟩
   | str b=>cases ry;obtain ⟨t,rfl⟩:=rw;exact ⟨.str_str a t0 b t,.str_str a t0 b t,.str_str a t0 b t⟩
   | tup ys =>
    obtain ⟨p,ws,rfl,h1,h2⟩:=ry
    cases rw
    obtain ⟨its,_,pl,_⟩:=I.tuple h1
    exact ⟨.str_tuple a t0 pl (by omega),.str_tuple a t0 pl (by omega),.str_tuple a t0 pl (by omega)⟩
   | _=>cases py
  | _=>cases px
 | succ n ih =>
  intro x y v w u u' A hd px py rx ry rv rw hu
  cases x with
  | tup xs =>
   obtain ⟨a,vs,rfl,h1,h2⟩:=id rx
   cases rv
   obtain ⟨its,r1,p1,_⟩:=I.tuple h1
   cases y with
   | non=>cases ry;cases rw;exact ⟨.tuple_none p1 (by omega),.tuple_none p1 (by omega),.tuple_none p1 (by omega)⟩
   | bl b=>cases ry;cases rw;exact ⟨.tuple_bool b p1 (by omega),.tuple_bool b p1 (by omega),.tuple_bool b p1 (by omega)⟩
   | int b=>cases ry;obtain ⟨t,rfl⟩:=rw;exact ⟨.tuple_int b t p1 (by omega),.tuple_int b t p1 (by omega),.tuple_int b t p1 (by omega)⟩
   | str b=>cases ry;obtain ⟨t,rfl⟩:=rw;exact ⟨.tuple_str b t p1 (by omega),.tuple_str b t p1 (by omega),.tuple_str b t p1 (by omega)⟩
   | tup ys =>
    obtain ⟨b,ws,rfl,h3,h4⟩:=id ry
    cases rw
    obtain ⟨aL,r2,p2,_⟩:=I.tuple h3
    have l1:=h2.len
    have l2:=h4.len
    have l3:=r1.length
    have l4:=r2.length
    have item:∀j (g1:j<its.toArray.size) (g2:j<aL.toArray.size),SeqAt.EqAt A.in1 s its.toArray[j] aL.toArray[j] (fE xs ys j):=λj g1 g2=>by
     have k1:j<xs.length:=by rw [l1,l3];simpa using g1
     have k2:j<ys.length:=by rw [l2,l4];simpa using g2
     obtain ⟨v1,e1,v_⟩:=h2.get (yx k1)
     obtain ⟨v2,e2,w_⟩:=h4.get (yx k2)
     obtain ⟨u1,f1,xb⟩:=r1.get e1
     obtain ⟨u2,f2,xc⟩:=r2.get e2
     have w1:its.toArray[j]=u1:=by
      obtain ⟨_,z⟩:=yt.mp f1
      simpa using z
     have w2:aL.toArray[j]=u2:=by
      obtain ⟨_,z⟩:=yt.mp f2
      simpa using z
     have ej:fE xs ys j=a_ xs[j] ys[j]:=by
      unfold fE
      rw [yx k1,yx k2]
     rw [w1,w2,ej]
     have VN:=v9 (yx k1)
     simp only [dep] at hd
     exact (ih xs[j] ys[j] A.in1 (by omega) (sD px (yx k1)) (sD py (yx k2)) v_ w_ xb xc (by rw [qd];omega)).1
    have uK:((List.range (min its.toArray.size aL.toArray.size)).all (fE xs ys)&&its.toArray.size==aL.toArray.size)=a_ (.tup xs) (.tup ys):=by
     have e:=DV xs ys
     rw [l1,l2,l3,l4] at e
     simpa [a_] using e
    have rc:SeqAt.RcAt A s (.ref a) (.ref b) (a_ (.tup xs) (.tup ys)):=by
     rw [<-uK]
     exact SeqAt.RcAt.tuples (show s.heap.IsTuple a its.toArray from p1) (show s.heap.IsTuple b aL.toArray from p2) (by omega) item
    refine ⟨?_,rc,?_⟩
    ·by_cases eJ:a=b
     ·subst eJ
      rw [DU I (.tup xs) (.tup ys) px py rx ry]
      exact .same _
     ·exact .of_refs eJ rc
    ·rw [<-uK]
     exact SeqAt.RcNeAt.tuples (show s.heap.IsTuple a its.toArray from p1) (show s.heap.IsTuple b aL.toArray from p2) (by omega) item
   | _=>cases py
  | non=>exact ih _ y A (jB _) px py rx ry rv rw (by omega)
  | bl a=>exact ih _ y A (jB _) px py rx ry rv rw (by omega)
  | int a=>exact ih _ y A (jB _) px py rx ry rv rw (by omega)
  | str a=>exact ih _ y A (jB _) px py rx ry rv rw (by omega)
  | _=>cases px
def ye:Am:=λx y st=>if plain x=true/\plain y=true/\dep x<=150 then .ok (.bl (a_ x y)) st else .stuck
def wM:Am:=λx y st=>if plain x=true/\plain y=true/\dep x<=150 then .ok (.bl (!a_ x y)) st else .stuck
def DW (K:Frag) (mg:Ab) (f:Bool->Bool):R2:=λv w H Q=>∃ρ x y,plain x=true/\plain y=true/\dep x<=150/\R K mg ρ H x v/\R K mg ρ H y w/\Q (.bl (f (a_ x y))) H
theorem NA (hu:X.A.units+200<cLine):bh X (compareOp .Eq) (DW X.K X.mg id):=by
 intro pins s U H x y v u Q I rx ry h
 obtain ⟨ρ,a,b,pa,pb,hd,ra,rb,q⟩:=h
 exact PySem.EqBoolInt.of_rc (sE I 150 a b X.A hd pa pb ra rb rx ry (by omega)).2.1 ⟨.bl _,H,I,rfl,q⟩
def NB (hu:X.A.units+200<cLine):bh X (compareOp .NotEq) (DW X.K X.mg not):=by
 intro pins s U H x y v u Q I rx ry h
 obtain ⟨ρ,a,b,pa,pb,hd,ra,rb,q⟩:=h
 exact PySem.EqBoolInt.of_rcne (sE I 150 a b X.A hd pa pb ra rb rx ry (by omega)).2.2 ⟨.bl _,H,I,rfl,q⟩
def yP (hu:X.A.units+200<cLine):b_ X .Eq ye:=⟨_,NA hu,fun ρ H st x y v w Q E s rx ry h=>by
 obtain ⟨⟨p1,p2,p3⟩,h⟩:=Out.ifp h
 exact ⟨ρ,x,y,p1,p2,p3,rx,ry,h.now s _ rfl⟩⟩
def zdt (hu:X.A.units+200<cLine):b_ X .NotEq wM:=⟨_,NB hu,fun ρ H st x y v w Q E s rx ry h=>by
 obtain ⟨⟨p1,p2,p3⟩,h⟩:=Out.ifp h
 exact ⟨ρ,x,y,p1,p2,p3,rx,ry,h.now s _ rfl⟩⟩
end
section
variable {X:Cx}{Er:XK}{K:Frag}{mg:Ab}{a b c e:Expr}{es:List Expr}{pos:Pos}{fa fb fc:Ai}{fs:Ah}
def NC (K:Frag) (mg:Ab) (Er:XK) (f:zm->Mo (Option Int)):TO:=λU H Q=>∃env st ρ,bg K mg ρ H env U/\aX K mg ρ H st/\Out K mg ρ H (f env st) (λ_ H' o _=>Q o H') Er
def MO (X:Cx) (Er:XK) (e:Option Expr) (f:zm->Mo (Option Int)):Prop:=PO X e (NC X.K X.mg Er f)
def d7:zm->Mo (Option Int):=λ_ st=>.ok none st
def xf:PV->Mo (Option Int)
 | .int i,st=>.ok (some i) st
 | _,_=>.stuck
def cP (f:Ai):zm->Mo (Option Int):=λenv st=>(f env st).bind xf
def PO.weak {o:Option Expr}{t t':TO}(h:PO X o t) (w:∀U H Q,t' U H Q->t U H Q):PO X o t':=λpins s U H Q I q=>h pins s U H Q I (w U H Q q)
def zeO:MO X Er none d7:=PO.weak Lq λU H Q ⟨env,st,ρ,re,rs,h⟩=>h.now rs
def zdu (h:ME X Er e fa):MO X Er (some e) (cP fa):=PO.weak (Lr h) λU H Q ⟨env,st,ρ,re,rs,h⟩=>⟨env,st,ρ,re,rs,h.then λaf H1 x aq e1 s1 h1 v rv=>by
 cases x with
 | int i=>cases rv;exact ⟨i,rfl,Out.now (x:=some i) h1 s1⟩
 | _=>exact h1.elim⟩
def cX (xs:An) (lo hi:Option Int):An:=(xs.drop (HT.sIx xs.length 0 lo)).take (HT.sIx xs.length xs.length hi-HT.sIx xs.length 0 lo)
def oq:PV->Option Int->Option Int->Mo PV
 | .tup xs,lo,hi,st=>.ok (.tup (cX xs lo hi)) st
 | .frl xs,lo,hi,st=>.ok (.ref st.length) (st++[.lst (cX xs lo hi)])
 | .ref n,lo,hi,st=>yi st n λxs=>.ok (.ref st.length) (st++[.lst (cX xs lo hi)])
 | .str z,lo,hi,st=>if z.length<=lim then .ok (.str (Txt.slice z lo hi)) st else .stuck
 | _,_,_,_=>.stuck
def Rs.cut {ρ:Ae}{H:Hp}{xs:An}{vs:List V}(r:Rs K mg ρ H xs vs) (lo hi:Option Int):Rs K mg ρ H (cX xs lo hi) (fR vs lo hi):=by
 unfold cX fR
 rw [r.len]
 exact (r.drop _).take _
def ND (K:Frag):V->Option Int->Option Int->Hp->VK->Prop:=λx lo hi H Q=>∃a xs,x=.ref a/\aW K H a xs/\(HT.sIx xs.length 0 lo=0/\HT.sIx xs.length xs.length hi=xs.length)/\Q (.ref a) H
def NF:iX X (ND X.K):=by
 intro pins s U H x v vl vu lo hi sl Q I rx hs pl pu h
 obtain ⟨a,xs,rfl,hx,hw,q⟩:=h
 cases rx
 obtain ⟨its,r,ht,hz⟩:=I.tuple hx
 have hlen:its.toArray.size=xs.length:=by rw [yQ];exact r.length.symm
 refine ⟨"tuple", _,PyProof.Rows.slot_tuple_getitem.lookup,ht.typeIs,?_⟩
 exact HT.getItem_tuple_all ht hs pl pu (by rw [hlen];exact hw) ⟨.ref a,H,I,rfl,q⟩ (by rw [hlen];exact hz)
def lg (fa:Ai) (fl fu:zm->Mo (Option Int)):Ai:=λenv st=>(fa env st).bind λx aq=>(fl env aq).bind λl ay=>(fu env ay).bind λu aS=>oq x l u aS
def zeP {lo hi:Option Expr}{fl fu:zm->Mo (Option Int)}{p2:Pos}(ha:ME X Er a fa) (hl:MO X Er lo fl) (hu:MO X Er hi fu):ME X Er (.Subscript a (.Slice lo hi none p2) pos) (lg fa fl fu) :=
 PE.weak (Lu (Lw.or (NF.or (LO.or Mg))) ha hl hu) λU H Q ⟨env,st,ρ,re,rs,h⟩=>⟨env,st,ρ,re,rs,h.then λaf H1 x aq e1 s1 h1 v rv=>⟨env,aq,af,re.ext e1,s1,h1.then λap H2 l ay e2 s2 h2 =>
  ⟨env,ay,ap,(re.ext e1).ext e2,s2,h2.then λaj H3 u aS e3 s3 h3=>by
  have rv:=R.ext e3 x (R.ext e2 x rv)
  cases x with
  | tup xs =>
   obtain ⟨p,vs,rfl,k1,k2⟩:=rv
   by_cases hw:HT.sIx vs.length 0 l=0/\HT.sIx vs.length vs.length u=vs.length
   ·refine .inr (.inl ⟨p,vs,rfl,k1,hw,Out.now (x:=PV.tup (cX xs l u)) h3 s3 _ ⟨p,vs,rfl,k1,?_⟩⟩)
    have:cX xs l u=xs:=by
     unfold cX
     rw [k2.len,hw.1,hw.2]
     simp [<-k2.len]
    rw [this];exact k2
   ·exact .inl ⟨p,vs,rfl,k1,hw,λq hq=>h3 aj _ (Ext.new hq) (s3.new hq) _ (R.tup_of (k2.cut l u) hq)⟩
  | frl xs =>
   obtain ⟨p,vs,rfl,k1,k2⟩:=rv
   exact .inr (.inr (.inl ⟨p,vs,rfl,k1.sq,λq hq=>Out.newList (xs:=cX xs l u) h3 s3 (k2.cut l u) hq⟩))
  | ref n =>
   obtain ⟨p,rfl,hp⟩:=rv
   obtain ⟨xs,k0,h3⟩:=jp h3
   obtain ⟨vs,k1,k2⟩:=s3.addr k0 hp
   exact .inr (.inr (.inl ⟨p,vs,rfl,aQ.of k1,λq hq=>Out.newList (xs:=cX xs l u) h3 s3 (k2.cut l u) hq⟩))
  | str z =>
   cases rv
   obtain ⟨k0,h3⟩:=Out.ifp h3
   exact .inr (.inr (.inr ⟨z,rfl,jo k0,h3.now s3 _ rfl⟩))
  | _=>exact h3.elim⟩⟩⟩
def xg (K:Frag) (mg:Ab) (r:List V->Hp->VK->Prop) (op:Al):Prop:=∀ρ H st xs vs (Q:VK) (E:XK),aX K mg ρ H st->Rs K mg ρ H xs vs->Out K mg ρ H (op xs st) (gV K mg Q) E->r vs H Q
def cE (X:Cx) (f:Value) (op:Al):Prop:=∃r,bQ X f r/\xg X.K X.mg r op
def zu (op:Al) (fs:Ah):Ai:=λenv st=>(fs env st).bind op
def jc {x:Str} {id:String} {op:Al} {p:Pos} (h:cE X (.builtin id) op) (hm:X.mg x=none) (hv:bootBuiltins x=some (.builtin id)) (ha:MA X Er (e::es) fs) (hg:Gl X x:=by rfl) (hn:x ≠ "__name__" := by decide) (eU:(x==("__debug__" : Str))=false:=by decide)
  (he:starEach (e::es) X.env=(false,eval e X.env)::starEach es X.env:=by rfl) (bU:(backTo pos (starEach es X.env)).any (·.1)=false:=by rfl):ME X Er (.Call (.Name x p) (e::es) [] pos) (zu op fs):=by
 obtain ⟨r,h1,h2⟩:=h
 exact PE.weak (Lg h1 hg hm hv ha hn eU he bU) λU H Q ⟨env,st,ρ,re,rs,h⟩=>⟨env,st,ρ,re,rs,h.then λaf H1 xs aq e1 s1 k vs rv=>h2 af H1 aq xs vs Q Er s1 rv k⟩
def jE {x:Str} {T:String} {op:Al} {p:Pos} (h:cE X (.type T) op) (hm:X.mg x=none) (hv:bootBuiltins x=some (.type T)) (ha:MA X Er (e::es) fs) (hg:Gl X x:=by rfl) (hn:x ≠ "__name__" := by decide) (eU:(x==("__debug__" : Str))=false:=by decide)
  (he:starEach (e::es) X.env=(false,eval e X.env)::starEach es X.env:=by rfl) (bU:(backTo pos (starEach es X.env)).any (·.1)=false:=by rfl):ME X Er (.Call (.Name x p) (e::es) [] pos) (zu op fs):=by
 obtain ⟨r,h1,h2⟩:=h
 exact PE.weak (Lh h1 hg hm hv ha hn eU he bU) λU H Q ⟨env,st,ρ,re,rs,h⟩=>⟨env,st,ρ,re,rs,h.then λaf H1 xs aq e1 s1 k vs rv=>h2 af H1 aq xs vs Q Er s1 rv k⟩
def qe {x:Str} {n:String} (hm:X.mg x=none) (hv:bootBuiltins x=some (.type n)) (hg:Gl X x:=by rfl) (hn:x ≠ "__name__" := by decide) (hd:(x==("__debug__" : Str))=false:=by decide):ME X Er (.Name x pos) (mC (.ty n)) :=
 p_ (Jv (v:=.ty n) hg hm hv rfl hn hd) λ_ _=>rfl
def Rs.one {ρ:Ae}{H:Hp}{x:PV}{vs:List V}(r:Rs K mg ρ H [x] vs):∃v,vs=[v]/\R K mg ρ H x v:=by
 obtain ⟨v,r',rfl,h,h'⟩:=r
 cases h'
 exact ⟨v,rfl,h⟩
def Rs.two {ρ:Ae}{H:Hp}{x y:PV}{vs:List V}(r:Rs K mg ρ H [x,y] vs):∃v w,vs=[v,w]/\R K mg ρ H x v/\R K mg ρ H y w:=by
 obtain ⟨v,r',rfl,h,h'⟩:=r
 obtain ⟨w,rfl,h2⟩:=Rs.one h'
 exact ⟨v,w,rfl,h,h2⟩
def sF:Al
 | [.tup xs],st=>.ok (.int xs.length) st
 | [.frl xs],st=>.ok (.int xs.length) st
 | [.str z],st=>if z.length<=lim then .ok (.int z.length) st else .stuck
 | [.ref n],st=>yi st n λxs=>.ok (.int xs.length) st
 | _,_=>.stuck
def NG:cE X (.builtin "len") sF:=⟨_,KC,fun ρ H st xs vs Q E s r h=>by
 match xs,r,h with
 | [.tup ys],r,h =>
  obtain ⟨v,rfl,p,ws,rfl,h1,h2⟩:=Rs.one r
  exact ⟨_,ws.length,rfl,.inr ⟨ws,h1,rfl⟩,by rw [<-h2.len];exact Out.now (x:=PV.int ys.length) h s _ rfl⟩
 | [.frl ys],r,h =>
  obtain ⟨v,rfl,p,ws,rfl,h1,h2⟩:=Rs.one r
  exact ⟨_,ws.length,rfl,.inl ⟨ws,h1.sq,rfl⟩,by rw [<-h2.len];exact Out.now (x:=PV.int ys.length) h s _ rfl⟩
 | [.str z],r,h =>
  obtain ⟨v,rfl,rfl⟩:=Rs.one r
  obtain ⟨c,h⟩:=Out.ifp h
  exact ⟨_,z.length,rfl,⟨jo c,rfl⟩,h.now s _ rfl⟩
 | [.ref n],r,h =>
  obtain ⟨v,rfl,p,rfl,hp⟩:=Rs.one r
  obtain ⟨ys,e,h⟩:=jp h
  obtain ⟨ws,h1,h2⟩:=s.addr e hp
  exact ⟨_,ws.length,rfl,.inl ⟨ws,aQ.of h1,rfl⟩,by rw [<-h2.len];exact h.now s _ rfl⟩
 | [],r,h=>exact h.elim
 | [.non],r,h=>exact h.elim
 | [.bl _],r,h=>exact h.elim
 | [.int _],r,h=>exact h.elim
 | [.ty _],r,h=>exact h.elim
 | [.fn _],r,h=>exact h.elim
 | [.kd _ _],r,h=>exact h.elim
 | [.exo _ _ _],r,h=>exact h.elim
 | x::y::r',r,h=>cases x<;>exact h.elim⟩
def ou:Al
 | [.int i],st=>.ok (.int i) st
 | [.bl k],st=>.ok (.int (if k then 1 else 0)) st
 | _,_=>.stuck
def NH:cE X (.type "int") ou:=⟨_,Kz,fun ρ H st xs vs Q E s r h=>by
 match xs,r,h with
 | [.int i],r,h =>
  obtain ⟨v,rfl,rfl⟩:=Rs.one r
  exact .inl ⟨i,rfl,Out.now (x:=PV.int i) h s _ rfl⟩
 | [.bl k],r,h =>
  obtain ⟨v,rfl,rfl⟩:=Rs.one r
  exact .inr ⟨k,rfl,Out.now (x:=PV.int (if k then 1 else 0)) h s _ rfl⟩
 | [],r,h=>exact h.elim
 | [.non],r,h=>exact h.elim
 | [.str _],r,h=>exact h.elim
 | [.tup _],r,h=>exact h.elim
 | [.frl _],r,h=>exact h.elim
 | [.ref _],r,h=>exact h.elim
 | [.ty _],r,h=>exact h.elim
 | [.fn _],r,h=>exact h.elim
 | [.kd _ _],r,h=>exact h.elim
 | [.exo _ _ _],r,h=>exact h.elim
 | x::y::r',r,h=>cases x<;>exact h.elim⟩
def qf:Al
 | [.tup xs],st=>.ok (.ref st.length) (st++[.lst xs])
 | [.frl xs],st=>.ok (.ref st.length) (st++[.lst xs])
 | [.ref n],st=>yi st n λxs=>.ok (.ref st.length) (st++[.lst xs])
 | _,_=>.stuck
def NI:cE X (.type "list") qf:=⟨_,LP,fun ρ H st xs vs Q E s r h=>by
 match xs,r,h with
 | [.tup ys],r,h =>
  obtain ⟨v,rfl,p,ws,rfl,h1,h2⟩:=Rs.one r
  exact ⟨p,ws,rfl,.inr h1,λl hl=>Out.newList (xs:=ys) h s h2 hl⟩
 | [.frl ys],r,h =>
  obtain ⟨v,rfl,p,ws,rfl,h1,h2⟩:=Rs.one r
  exact ⟨p,ws,rfl,.inl h1.sq,λl hl=>Out.newList (xs:=ys) h s h2 hl⟩
 | [.ref n],r,h =>
  obtain ⟨v,rfl,p,rfl,hp⟩:=Rs.one r
  obtain ⟨ys,e,h⟩:=jp h
  obtain ⟨ws,h1,h2⟩:=s.addr e hp
  exact ⟨p,ws,rfl,.inl (aQ.of h1),λl hl=>Out.newList (xs:=ys) h s h2 hl⟩
 | [],r,h=>exact h.elim
 | [.non],r,h=>exact h.elim
 | [.bl _],r,h=>exact h.elim
 | [.int _],r,h=>exact h.elim
 | [.str _],r,h=>exact h.elim
 | [.ty _],r,h=>exact h.elim
 | [.fn _],r,h=>exact h.elim
 | [.kd _ _],r,h=>exact h.elim
 | [.exo _ _ _],r,h=>exact h.elim
 | x::y::r',r,h=>cases x<;>exact h.elim⟩
def jx:Al
 | [.tup xs],st=>.ok (.tup xs) st
 | [.frl xs],st=>.ok (.tup xs) st
 | [.ref n],st=>yi st n λxs=>.ok (.tup xs) st
 | _,_=>.stuck
def we:cE X (.type "tuple") jx:=⟨_,LQ,fun ρ H st xs vs Q E s r h=>by
 match xs,r,h with
 | [.tup ys],r,h =>
  obtain ⟨v,rfl,p,ws,rfl,h1,h2⟩:=Rs.one r
  exact ⟨p,ws,rfl,.inr ⟨h1,Out.now (x:=PV.tup ys) h s _ ⟨p,ws,rfl,h1,h2⟩⟩⟩
 | [.frl ys],r,h =>
  obtain ⟨v,rfl,p,ws,rfl,h1,h2⟩:=Rs.one r
  exact ⟨p,ws,rfl,.inl ⟨h1.sq,λl hl=>h ρ _ (Ext.new hl) (s.new hl) _ (R.tup_of h2 hl)⟩⟩
 | [.ref n],r,h =>
  obtain ⟨v,rfl,p,rfl,hp⟩:=Rs.one r
  obtain ⟨ys,e,h⟩:=jp h
  obtain ⟨ws,h1,h2⟩:=s.addr e hp
  exact ⟨p,ws,rfl,.inl ⟨aQ.of h1,λl hl=>h ρ _ (Ext.new hl) (s.new hl) _ (R.tup_of h2 hl)⟩⟩
 | [],r,h=>exact h.elim
 | [.non],r,h=>exact h.elim
 | [.bl _],r,h=>exact h.elim
 | [.int _],r,h=>exact h.elim
 | [.str _],r,h=>exact h.elim
 | [.ty _],r,h=>exact h.elim
 | [.fn _],r,h=>exact h.elim
 | [.kd _ _],r,h=>exact h.elim
 | [.exo _ _ _],r,h=>exact h.elim
 | x::y::r',r,h=>cases x<;>exact h.elim⟩
def xh (T n:String):Option Bool :=
 if T = "int" then (if n = "int" then some true else if n = "bool" \/ n = "str" \/ n = "tuple" \/ n = "dict" \/ n = "list" then some false else none)
 else if T = "bool" then (if n = "int" \/ n = "bool" then some true else if n = "str" \/ n = "tuple" \/ n = "dict" \/ n = "list" then some false else none)
 else if T = "str" then (if n = "str" then some true else if n = "int" \/ n = "bool" \/ n = "tuple" \/ n = "dict" \/ n = "list" then some false else none)
 else if T = "tuple" then (if n = "tuple" then some true else if n = "int" \/ n = "bool" \/ n = "str" \/ n = "dict" \/ n = "list" then some false else none)
 else if T = "list" then (if n = "list" then some true else if n = "int" \/ n = "bool" \/ n = "str" \/ n = "dict" \/ n = "tuple" then some false else none)
 else if T = "dict" then (if n = "dict" then some true else if n = "int" \/ n = "bool" \/ n = "str" \/ n = "list" \/ n = "tuple" then some false else none)
 else if T = "NoneType" then (if n = "int" \/ n = "bool" \/ n = "str" \/ n = "list" \/ n = "tuple" \/ n = "dict" then some false else none)
 else none
def NJ (K:Frag) {T n:String}{b:Bool}(h:xh T n=some b):PySem.W.kitOne K (.type T) (.type n)=some b:=by
 unfold xh at h
 split at h
 ·rename_i e;subst e
  split at h
  ·rename_i e;subst e;cases h;first|rfl|kernel_rfl
  ·split at h
   ·rename_i e;cases h;rcases e with e|e|e|e|e<;>subst e<;>first|rfl|kernel_rfl
   ·cases h
 ·split at h
  ·rename_i e;subst e
   split at h
   ·rename_i e;cases h;rcases e with e|e<;>subst e<;>first|rfl|kernel_rfl
   ·split at h
    ·rename_i e;cases h;rcases e with e|e|e|e<;>subst e<;>first|rfl|kernel_rfl
    ·cases h
  ·split at h
   ·rename_i e;subst e
    split at h
    ·rename_i e;subst e;cases h;first|rfl|kernel_rfl
    ·split at h
     ·rename_i e;cases h;rcases e with e|e|e|e|e<;>subst e<;>first|rfl|kernel_rfl
     ·cases h
   ·split at h
    ·rename_i e;subst e
     split at h
     ·rename_i e;subst e;cases h;first|rfl|kernel_rfl
     ·split at h
      ·rename_i e;cases h;rcases e with e|e|e|e|e<;>subst e<;>first|rfl|kernel_rfl
      ·cases h
    ·split at h
     ·rename_i e;subst e
      split at h
      ·rename_i e;subst e;cases h;first|rfl|kernel_rfl
      ·split at h
       ·rename_i e;cases h;rcases e with e|e|e|e|e<;>subst e<;>first|rfl|kernel_rfl
       ·cases h
     ·split at h
      ·rename_i e;subst e
       split at h
       ·rename_i e;subst e;cases h;first|rfl|kernel_rfl
       ·split at h
        ·rename_i e;cases h;rcases e with e|e|e|e|e<;>subst e<;>first|rfl|kernel_rfl
        ·cases h
      ·split at h
       ·rename_i e;subst e
        split at h
        ·rename_i e;cases h;rcases e with e|e|e|e|e|e<;>subst e<;>first|rfl|kernel_rfl
        ·cases h
       ·cases h
end
def iF (K:Frag) (mg:Ab) (m:Al):Sp:=λvs H Q E=>∃xs st ρ,Rs K mg ρ H xs vs/\aX K mg ρ H st/\Out K mg ρ H (m xs st) (gV K mg Q) E
section
variable (P:Program) (w:World) (K:Frag) (mg:Ab) (base:Heap)
def bf (x:Str) (k:Nat) (m:Al):Prop:=∃f fd ps,mg x=some (.ref f)/\keepIn K (.ref f)=true/\Binds K fd ps []/\bG P w K mg base (cZ P w) k f fd ps (iF K mg m)
def gL (c name:Str) (k:Nat) (m:Al):Prop:=∃C f fd ps,mg c=some (.ref C)/\fq K C/\Meth K C name f/\Binds K fd ps []/\bG P w K mg base (cZ P w) k f fd ps (iF K mg m)
def xi (c:Str) (k:Nat) (m:Al):Prop:=∃C f fd ps,mg c=some (.ref C)/\Mk K C f/\Binds K fd ps []/\bG P w K mg base (cZ P w) k f fd ps (iF K mg m)
end
section
variable {X:Cx}{Er:XK}{K:Frag}{mg:Ab}{a b c e o:Expr}{es:List Expr}{pos p apos:Pos}{fa fb fc fo:Ai}{fs:Ah}{k:Nat}{x:Str}{m:Al}
def zO (C:bf X.prog X.w X.K X.mg X.base x k m) (hr:bt k X.A) (ht:iB X Er) (ha:MA X Er (e::es) fs) (hg:Gl X x:=by rfl) (eU:(x==("__debug__" : Str))=false:=by decide)
  (he:starEach (e::es) X.env=(false,eval e X.env)::starEach es X.env:=by rfl) (bU:(backTo pos (starEach es X.env)).any (·.1)=false:=by rfl):ME X Er (.Call (.Name x p) (e::es) [] pos) (zu m fs):=by
 obtain ⟨f,fd,ps,hm,hk,hb,F⟩:=C
 exact PE.weak (Lb F hr hg hm hk hb .nil (vS ht) ha eU he bU) λU H Q ⟨env,st,ρ,re,rs,h⟩=>⟨env,st,ρ,re,rs,h.then λaf H1 xs aq e1 s1 k vs rv=>by
  show iF X.K X.mg m (vs++[]) H1 Q Er
  rw [List.append_nil]
  exact ⟨xs,aq,af,rv,s1,k⟩⟩
theorem ow {ρ:Ae}{H:Hp}{f:Str}:∀{ks:Ad}{xs:An}{vs:List V}{x:PV},Rs K mg ρ H xs vs->(ks.zip xs).lookup f=some x->∃v,(ks.zip vs).lookup f=some v/\R K mg ρ H x v
 | [],_,_,_,_,h=>by simp at h
 | k::ks,[],_,_,_,h=>by simp at h
 | k::ks,y::xs,_,x,r,h=>by
  obtain ⟨v,r',rfl,h1,h2⟩:=r
  simp only [List.zip_cons_cons,wW] at h ⊢
  split at h
  ·cases h;exact ⟨v,rfl,h1⟩
  ·exact ow h2 h
theorem xj {f:Str}{β:Type}:∀{ks:Ad}{vs:List β},f∉ks->(ks.zip vs).lookup f=none
 | [],_,_=>by simp
 | k::ks,[],_=>by simp
 | k::ks,v::vs,h=>by
  simp only [yC,not_or] at h
  simp only [List.zip_cons_cons,wW]
  have:(f==k)=false:=by simpa using h.1
  rw [this]
  exact xj h.2
def NK (X:Cx) (name:Str) (k:Nat) (E:XK) (ta:TE) (t:TA):TE:=λU H Q=>ta U H λx H1=>∃a C dx fs f fd ps sp,x=.ref a/\H1 a=some (.ins C dx fs)/\fs.lookup name=none/\fq X.K C/\Meth X.K C name f/\Binds X.K fd ps []/\bG X.prog X.w X.K X.mg X.base (cZ X.prog X.w) k f fd ps sp /\
 t U H1 λvs H2=>sp (x::vs) H2 Q E
def NL {pl:Sem Bool}{name:Str}{ta:TE}{t:TA}{E:XK}(he:PE X o ta) (hr:bt k X.A) (hx:Passes (cZ X.prog X.w) X E) (ha:PA X (e::es) t)
  (cC:starEach (e::es) X.env=(false,eval e X.env)::starEach es X.env:=by rfl) (bU:(backTo pos (starEach es X.env)).any (·.1)=false:=by rfl)
  (ht:eval (.Call (.Attribute o name apos) (e::es) [] pos) X.env=(do
   let ov <-eval o X.env
   standAt apos.atName
   let (f,first) <-holding [ov] (getMethod ov name pl)
   callWith pos f first (backTo pos (starEach (e::es) X.env)) (backToKw pos (keywordEach [] X.env))):=by rfl) :
  PE X (.Call (.Attribute o name apos) (e::es) [] pos) (NK X name k E ta t):=by
 intro pins s U H Q I h
 refine PySem.W.methodCall_KW (pl:=pl) (aP (he pins s U H _ I h) λu s1 ⟨x,H1,I1,rx,a,C,dx,fs,f,fd,ps,sp,ex,ea,l,c,hm,hb,F,q⟩=>?_) ht
 subst ex
 obtain rfl:u=Value.ref a:=rx
 refine KQ I1 ea c hm l ?_
 refine PySem.W.callWith_K (first:=[.ref a]) (h₀:=X.base) I.ok.mod.kin hm.kp (aP (ha pos pins s1 U H1 _ I1 q) λus s2 ⟨vs,H2,I2,r,q2⟩=>⟨I2.kIn,?_⟩) cC bU
 exact CF (us:=.ref a::us) (vs:=.ref a::vs) F hr hb .nil hx I2 (.cons rfl r) (by rw [List.append_nil];exact q2)
def nK (name:Str) (tab:Str->Option (Al)) (o:PV) (st:aa) (k:Nat->(Al)->Res PV):Res PV:=match o with
 | .ref n=>j7 st n λc ks _=>if name∈ks then .stuck else match tab c with
  | some m=>k n m
  | none=>.stuck
 | _=>.stuck
def iG (name:Str) (tab:Str->Option (Al)) (fo:Ai) (fs:Ah):Ai:=λenv st=>(fo env st).bind λo aq=>nK name tab o aq λn m=>(fs env aq).bind λys ay=>m (.ref n::ys) ay
def NM {name:Str}{tab:Str->Option (Al)}{o:PV}{st:aa}{kk:Nat->(Al)->Res PV}{ρ:Ae}{H:Hp}{good}(h:Out K mg ρ H (nK name tab o st kk) good Er) :
  ∃n c ks xs m,o=.ref n/\st[n]?=some (.ins c ks xs)/\name∉ks/\tab c=some m/\Out K mg ρ H (kk n m) good Er:=by
 cases o with
 | ref n =>
  obtain ⟨c,ks,xs,e,h⟩:=DQ h
  split at h
  ·exact h.elim
  ·rename_i hn
   cases hc:tab c with
   | none=>rw [hc] at h;exact h.elim
   | some m=>rw [hc] at h;exact ⟨n,c,ks,xs,m,rfl,e,hn,hc,h⟩
 | _=>exact h.elim
def NN {pl:Sem Bool}{name:Str}{tab:Str->Option (Al)}(hT:∀c m,tab c=some m->gL X.prog X.w X.K X.mg X.base c name k m) (ho:ME X Er o fo) (hr:bt k X.A) (ht:iB X Er) (ha:MA X Er (e::es) fs)
  (cC:starEach (e::es) X.env=(false,eval e X.env)::starEach es X.env:=by rfl) (bU:(backTo pos (starEach es X.env)).any (·.1)=false:=by rfl)
  (NP:eval (.Call (.Attribute o name apos) (e::es) [] pos) X.env=(do
   let ov <-eval o X.env
   standAt apos.atName
   let (f,first) <-holding [ov] (getMethod ov name pl)
   callWith pos f first (backTo pos (starEach (e::es) X.env)) (backToKw pos (keywordEach [] X.env))):=by rfl) :
  ME X Er (.Call (.Attribute o name apos) (e::es) [] pos) (iG name tab fo fs) :=
 PE.weak (NL (pl:=pl) ho hr (vS ht) ha cC bU NP) λU H Q ⟨env,st,ρ,re,rs,h⟩=>⟨env,st,ρ,re,rs,h.then λaf H1 x aq e1 s1 h1 v rv=>by
  obtain ⟨n,c,ks,xs,m,rfl,hn,hk,hc,h1⟩:=NM h1
  obtain ⟨C,f,fd,ps,hC,cl,hm,hb,F⟩:=hT c m hc
  obtain ⟨p,rfl,hp⟩:=rv
  obtain ⟨C',dx,vs,hC',hH,hR,hl⟩:=s1.addr hn hp
  rw [hC] at hC'
  cases hC'
  exact ⟨p,C,dx,_,f,fd,ps,_,rfl,hH,xj hk,cl,hm,hb,F,env,aq,af,re.ext e1,s1,Out.then h1 λap H2 ys ay e2 s2 h2 ws rws=>⟨.ref n::ys,ay,ap,⟨_,_,rfl,⟨p,rfl,e2.get hp⟩,rws⟩,s2,h2⟩⟩⟩
def lh (c:Str) (m:Al) (ys:An):Mo PV:=λst=>(m (.ref st.length::ys) (st++[.ins c [] []])).bind λr ay=>if d6 r=true then .ok (.ref st.length) ay else .stuck
def NQ {x:PV}(h:d6 x=true):x=.non:=by cases x<;>first|rfl|cases h
def NR {cn:Str}{C f:Addr}{ρ:Ae}{H:Hp}{st:aa}{ys:An}{vs:List V}{Q:VK}(hC:mg cn=some (.ref C)) (s:aX K mg ρ H st) (r:Rs K mg ρ H ys vs) (h:Out K mg ρ H (lh cn m ys st) (gV K mg Q) Er) :
  ∀x dx,H x=none->H dx=none->dx≠x->iF K mg m (.ref x::vs) (upd (upd H dx (.own x)) x (.ins C dx [])) (λv H2=>v=.non/\Q (.ref x) H2) Er:=λx dx hx sG ne=>by
 have sH:upd H dx (.own x) x=none:=by rw [yE (yT ne)];exact hx
 have s1:=s.new (o:=.own x) sG
 have e1:Ext ρ H ρ (upd H dx (.own x)):=Ext.new sG
 have e2:Ext ρ H (ρ++[x]) (upd (upd H dx (.own x)) x (.ins C dx [])):=e1.trans (Ext.push sH)
 have s2:aX K mg (ρ++[x]) (upd (upd H dx (.own x)) x (.ins C dx [])) (st++[.ins cn [] []]):=s1.push sH ⟨C,dx,[],hC,jf,rfl,rfl⟩
 have gx:(ρ++[x])[st.length]?=some x:=by rw [<-s.len];simp
 refine ⟨.ref st.length::ys,_,ρ++[x],⟨_,_,rfl,⟨x,rfl,gx⟩,Rs.ext e2 ys r⟩,s2,Out.then (Out.ext h e2) λaj H3 r3 aS e3 s3 h3 v rv=>?_⟩
 obtain ⟨hn,h3⟩:=Out.ifp h3
 obtain rfl:=NQ hn
 exact ⟨rv,h3.now s3 _ ⟨x,rfl,e3.get gx⟩⟩
def NS {cn:Str} (C:xi X.prog X.w X.K X.mg X.base cn k m) (hr:bt (k+1) X.A) (ht:iB X Er) (ha:MA X Er (e::es) fs) (hg:Gl X cn:=by rfl) (eU:(cn==("__debug__" : Str))=false:=by decide)
  (he:starEach (e::es) X.env=(false,eval e X.env)::starEach es X.env:=by rfl) (bU:(backTo pos (starEach es X.env)).any (·.1)=false:=by rfl):ME X Er (.Call (.Name cn p) (e::es) [] pos) (zu (lh cn m) fs):=by
 obtain ⟨C,f,fd,ps,hm,M,hb,F⟩:=C
 exact PE.weak (Ld M F hr hg hm hb .nil (vS ht) ha eU he bU) λU H Q ⟨env,st,ρ,re,rs,h⟩=>⟨env,st,ρ,re,rs,h.then λaf H1 xs aq e1 s1 k vs rv x dx hx sG ne=>by
  rw [List.append_nil]
  exact NR (f:=f) hm s1 rv k x dx hx sG ne⟩
def cQ (f:Str) (ins exc:Str->Bool):PV->Mo PV
 | .ref n,st=>j7 st n λc ks xs=>if ins c=true then b3 ((ks.zip xs).lookup f) st else .stuck
 | .exo c ks xs,st=>if exc c=true then b3 ((ks.zip xs).lookup f) st else .stuck
 | _,_=>.stuck
structure FldF (K:Frag) (mg:Ab) (f:Str) (ins exc:Str->Bool):Prop where
 i:∀c,ins c=true->∃C,mg c=some (.ref C)/\fq K C/\dn K C f
 x:∀c,exc c=true->∃C,mg c=some (.ref C)/\iS K C/\hasDictIn K C=true/\findIn K (.ref C) f=some none
def NT (K:Frag) (ta:TE) (f:Str):TE:=λU H Q=>ta U H λx H1=>(∃a C dx fs v,x=.ref a/\H1 a=some (.ins C dx fs)/\fq K C/\dn K C f/\fs.lookup f=some v/\Q v H1) \/
 ∃a C d fs v,x=.ref a/\H1 a=some (kX C (some d) a)/\H1 d=some (.xd fs)/\iS K C/\hasDictIn K C=true/\findIn K (.ref C) f=some none/\fs.lookup f=some v/\Q v H1
def NU {f:Str}{ta:TE}(he:PE X e ta) (hb:attributeBase e f X.env (eval e X.env)=eval e X.env):PE X (.Attribute e f pos) (NT X.K ta f):=by
 intro pins s U H Q I h
 refine KS hb (aP (he pins s U H _ I h) λu s1 ⟨x,H1,I1,rx,h1⟩=>?_)
 rcases h1 with ⟨a,C,dx,fs,v,ex,ea,c,n,l,q⟩|⟨a,C,dx,fs,v,ex,ea,ed,g,hh,no,l,q⟩
 ·subst ex
  obtain rfl:u=Value.ref a:=rx
  exact KP I1 ea c n l λu' s2 I2 ru=>⟨v,H1,I2,ru,q⟩
 ·subst ex
  obtain rfl:u=Value.ref a:=rx
  exact MZ I1 ea ed g hh no l λu' s2 I2 ru=>⟨v,H1,I2,ru,q⟩
def NV {f:Str}{ins exc:Str->Bool}(F:FldF X.K X.mg f ins exc) (he:ME X Er e fa) (hb:attributeBase e f X.env (eval e X.env)=eval e X.env:=by rfl):ME X Er (.Attribute e f pos) (jZ (cQ f ins exc) fa) :=
 PE.weak (NU he hb) λU H Q ⟨env,st,ρ,re,rs,h⟩=>⟨env,st,ρ,re,rs,h.then λaf H1 x aq e1 s1 h1 v rv=>by
  cases x with
  | ref n =>
   obtain ⟨c,ks,xs,hn,h1⟩:=DQ h1
   obtain ⟨hc,h1⟩:=Out.ifp h1
   obtain ⟨y,hy,h1⟩:=mE h1
   obtain ⟨p,rfl,hp⟩:=rv
   obtain ⟨C',dx,vs,hC',hH,hR,hl⟩:=s1.addr hn hp
   obtain ⟨C,hC,cl,na⟩:=F.i c hc
   rw [hC] at hC'
   cases hC'
   obtain ⟨v,hv,rv⟩:=ow hR hy
   exact .inl ⟨p,_,dx,_,v,rfl,hH,cl,na,hv,h1.now s1 _ rv⟩
  | exo c ks xs =>
   obtain ⟨hc,h1⟩:=Out.ifp h1
   obtain ⟨y,hy,h1⟩:=mE h1
   obtain ⟨a,C',d,vs,rfl,hC',hH,hd,hR,hl⟩:=rv
   obtain ⟨C,hC,g,hh,no⟩:=F.x c hc
   rw [hC] at hC'
   cases hC'
   obtain ⟨v,hv,rv⟩:=ow hR hy
   exact .inr ⟨a,_,d,_,v,rfl,hH,hd,g,hh,no,hv,h1.now s1 _ rv⟩
  | _=>exact h1.elim⟩
def mF:Option SO->Option (String ⊕ (Bool×Str))
 | some (.lst _)=>some (.inl "list")
 | some (.dic _ _)=>some (.inl "dict")
 | some (.ins c _ _)=>some (.inr (false,c))
 | some (.fdi _ _)=>none
 | some (.dit _ _)=>none
 | none=>none
def lj (st:aa):PV->Option (String ⊕ (Bool×Str))
 | .non=>some (.inl "NoneType")
 | .bl _=>some (.inl "bool")
 | .int _=>some (.inl "int")
 | .str _=>some (.inl "str")
 | .tup _=>some (.inl "tuple")
 | .ref n=>mF st[n]?
 | .exo c _ _=>some (.inr (true,c))
 | _=>none
def lr (o:Option Bool):Mo PV:=λst=>match o with
 | some b=>.ok (.bl b) st
 | none=>.stuck
def sI {ρ:Ae}{H:Hp}{o:Option Bool}{st:aa}{good}(h:Out K mg ρ H (lr o st) good Er):∃b,o=some b/\Out K mg ρ H (.ok (.bl b) st) good Er:=by
 cases o with
 | some x=>exact ⟨x,rfl,h⟩
 | none=>exact h.elim
structure IsT where
 isx:Str->Bool
 sub:Str->Str->Option Bool
 subT:Str->String->Option Bool
 tyC:String->Str->Option Bool
def uL (t:IsT) (st:aa):PV->Option (String ⊕ (Bool×Str))->Mo PV
 | .ty n,some (.inl T),st=>lr (xh T n) st
 | .ty n,some (.inr (f,c)),st=>if t.isx c=f then lr (t.subT c n) st else .stuck
 | .fn B,some (.inl T),st=>lr (t.tyC T B) st
 | .fn B,some (.inr (f,c)),st=>if t.isx c=f then lr (t.sub c B) st else .stuck
 | _,_,_=>.stuck
def jy (t:IsT):Al
 | [x,y],st=>uL t st y (lj st x) st
 | _,_=>.stuck
structure uM (K:Frag) (C:Addr):Prop where
 cl:fq K C
 ha:findIn K (.ref C) "__class__" = some (some (.builtin "object.__class__"))
 hn:specialIn K (.builtin "object.__class__") "__get__" = some (some (.builtin "getset_descriptor.__get__"))
 tk:takesIn K (.builtin "object.__class__")=some true
 hm:mroIn K C (.type "object")=some true
structure IsF (K:Frag) (mg:Ab) (t:IsT):Prop where
 s:∀c B b,t.sub c B=some b->∃C D,mg c=some (.ref C)/\mg B=some (.ref D)/\kitOne K (.ref C) (.ref D)=some b
 tt:∀c n b,t.subT c n=some b->∃C,mg c=some (.ref C)/\kitOne K (.ref C) (.type n)=some b
 u:∀T B b,t.tyC T B=some b->∃D,mg B=some (.ref D)/\kitOne K (.type T) (.ref D)=some b
 x:∀c C,t.isx c=true->mg c=some (.ref C)->((∃B b,t.sub c B=some b)\/∃n b,t.subT c n=some b)->nJ K C
 i:∀c C,t.isx c=false->mg c=some (.ref C)->((∃B b,t.sub c B=some b)\/∃n b,t.subT c n=some b)->uM K C
inductive mG (K:Frag) (H:Hp):V->Value->Prop where
 | of {v:V} {t:Value} (h:dB K H v t):mG K H v t
 | tup {a:Addr} {vs:List V} (h:aW K H a vs):mG K H (.ref a) (.type "tuple")
 | exc {a C d:Addr} {fs:List (Str×V)} (ha:H a=some (kX C (some d) a)) (hd:H d=some (.xd fs)) (k:nJ K C):mG K H (.ref a) (.ref C)
def NW {pins:Ac}{U:L2.St}{H:Hp}{s:Shared}{v:V}{u t c:Value}{b:Bool}{Q:Aa}{A:Around}{E:Aa}(I:Inv X pins U H s) (r:RelV v u) (ty:mG X.K H v t) (e:kitOne X.K t c=some b) (h:∀tk,Q (.bool b) { s with toks:=tk }) :
  wpAny (model X.prog X.w) A (call (.builtin "isinstance") [u,c]) Q E s:=by
 cases ty with
 | of ty=>exact KW I r ty e h
 | @tup a vs hq =>
  obtain rfl:u=Value.ref a:=r
  obtain ⟨its,_,p,_⟩:=I.tuple hq
  obtain ⟨o,h1,h2,_⟩:=p
  exact PySem.W.kia_one PySem.W.kitx_tuple I.kIn ⟨o,h1,h2⟩ e (λz=>nomatch z) h
 | @exc a C d fs ha hd k =>
  obtain rfl:u=Value.ref a:=r
  exact M0 I ha hd k e h
def NX:bQ X (.builtin "isinstance") (λxs H Q=>∃v w t c b,xs=[v,w]/\mG X.K H v t/\RelV w c/\(∀c',RelV w c'->c'=c)/\kitOne X.K t c=some b/\Q (.bl b) H):=by
 intro pins s U H xs us Q I r h
 obtain ⟨v,w,t,c,b,rfl,ty,rw,un,e,q⟩:=h
 obtain ⟨u,w',rfl,ru,dy⟩:=vj r
 obtain rfl:=un w' dy
 exact NW I ru ty e λtk=>⟨.bl b,H,I.tok _,rfl,q⟩
def DX {ρ:Ae}{H:Hp}{st:aa}{x:PV}{v:V}{T:String}(s:aX K mg ρ H st) (r:R K mg ρ H x v) (h:lj st x=some (.inl T)):mG K H v (.type T):=by
 cases x with
 | non=>cases h;cases r;exact .of .non
 | bl b=>cases h;cases r;exact .of (.bl b)
 | int i=>cases h;cases r;exact .of (.int i)
 | str z=>cases h;cases r;exact .of (.str z)
 | tup xs=>cases h;obtain ⟨a,vs,rfl,h1,_⟩:=r;exact .tup h1
 | frl xs=>cases h
 | ref n =>
  obtain ⟨a,rfl,ha⟩:=r
  have h:mF st[n]?=some (.inl T):=h
  cases e:st[n]? with
  | none=>rw [e] at h;cases h
  | some so =>
   rw [e] at h
   cases so with
   | lst xs=>cases h;obtain ⟨vs,h1,_⟩:=s.addr e ha;exact .of (.lst h1)
   | dic ks xs=>cases h;obtain ⟨vs,h1,_⟩:=s.addr e ha;exact .of (.dK h1)
   | ins c ks xs=>cases h
   | fdi ks xs=>cases h
   | dit ks xs=>cases h
 | ty _=>cases h
 | fn _=>cases h
 | kd _ _=>cases h
 | exo _ _ _=>cases h
def DY {ρ:Ae}{H:Hp}{st:aa}{x:PV}{v:V}{f:Bool}{c:Str}(hx:∀C,f=true->mg c=some (.ref C)->nJ K C) (hi:∀C,f=false->mg c=some (.ref C)->uM K C) (s:aX K mg ρ H st) (r:R K mg ρ H x v) (h:lj st x=some (.inr (f,c))):∃C,mg c=some (.ref C)/\mG K H v (.ref C):=by
 cases x with
 | ref n =>
  obtain ⟨a,rfl,ha⟩:=r
  have h:mF st[n]?=some (.inr (f,c)):=h
  cases e:st[n]? with
  | none=>rw [e] at h;cases h
  | some so =>
   rw [e] at h
   cases so with
   | lst xs=>cases h
   | dic ks xs=>cases h
   | fdi ks xs=>cases h
   | dit ks xs=>cases h
   | ins c' ks xs =>
    cases h
    obtain ⟨C,dx,vs,hC,hH,_⟩:=s.addr e ha
    have q:=hi C rfl hC
    exact ⟨C,hC,.of (.ins hH q.cl q.ha q.hn q.tk q.hm)⟩
 | exo c' ks xs =>
  cases h
  obtain ⟨a,C,d,vs,rfl,hC,hH,hd,_⟩:=r
  exact ⟨C,hC,.exc hH hd (hx C rfl hC)⟩
 | non=>cases h
 | bl _=>cases h
 | int _=>cases h
 | str _=>cases h
 | tup _=>cases h
 | frl _=>cases h
 | ty _=>cases h
 | fn _=>cases h
 | kd _ _=>cases h
def NY {t:IsT} (F:IsF X.K X.mg t):cE X (.builtin "isinstance") (jy t):=⟨_,NX,fun ρ H st xs vs Q E s r h=>by
 match xs,r,h with
 | [x,y],r,h =>
  obtain ⟨v,w,rfl,rx,ry⟩:=Rs.two r
  have h:Out X.K X.mg ρ H (uL t st y (lj st x) st) (gV X.K X.mg Q) E:=h
  cases hc:lj st x with
  | none=>rw [hc] at h;cases y<;>exact h.elim
  | some cc =>
   rw [hc] at h
   cases cc with
   | inl T =>
    cases y with
    | ty n =>
     cases ry
     obtain ⟨b,hb,h⟩:=sI h
     exact ⟨v,_,_,_,b,rfl,DX s rx hc,rfl,λc' h=>h,NJ X.K hb,h.now s _ rfl⟩
    | fn B =>
     obtain ⟨D,rfl,hD⟩:=ry
     obtain ⟨b,hb,h⟩:=sI h
     obtain ⟨D',hD',k⟩:=F.u T B b hb
     rw [hD] at hD'
     cases hD'
     exact ⟨v,_,_,_,b,rfl,DX s rx hc,rfl,λc' h=>h,k,h.now s _ rfl⟩
    | _=>exact h.elim
   | inr fc =>
    obtain ⟨f,c⟩:=fc
    cases y with
    | ty n =>
     cases ry
     obtain ⟨hf,h⟩:=Out.ifp h
     obtain ⟨b,hb,h⟩:=sI h
     obtain ⟨C,hC,k⟩:=F.tt c n b hb
     obtain ⟨C',hC',ty⟩:=DY (λC e hC=>F.x c C (hf.trans e) hC (.inr ⟨n,b,hb⟩)) (λC e hC=>F.i c C (hf.trans e) hC (.inr ⟨n,b,hb⟩)) s rx hc
     rw [hC] at hC'
     cases hC'
     exact ⟨v,_,_,_,b,rfl,ty,rfl,λc' h=>h,k,h.now s _ rfl⟩
    | fn B =>
     obtain ⟨D,rfl,hD⟩:=ry
     obtain ⟨hf,h⟩:=Out.ifp h
     obtain ⟨b,hb,h⟩:=sI h
     obtain ⟨C,D',hC,hD',k⟩:=F.s c B b hb
     rw [hD] at hD'
     cases hD'
     obtain ⟨C',hC',ty⟩:=DY (λC e hC=>F.x c C (hf.trans e) hC (.inl ⟨B,b,hb⟩)) (λC e hC=>F.i c C (hf.trans e) hC (.inl ⟨B,b,hb⟩)) s rx hc
     rw [hC] at hC'
     cases hC'
     exact ⟨v,_,_,_,b,rfl,ty,rfl,λc' h=>h,k,h.now s _ rfl⟩
    | _=>exact h.elim
 | [],r,h=>exact h.elim
 | [_],r,h=>exact h.elim
 | _::_::_::_,r,h=>exact h.elim⟩
end
section
variable {X:Cx}{Er:XK}{K:Frag}{mg:Ab}{a b c e o:Expr}{es:List Expr}{st:Stmt}{dX:List Stmt}{pos p apos pos':Pos}{fa fb fc fo:Ai}{fs:Ah}{k:Nat}{x:Str}{m:Al}
variable {g g' gb:Aj}{ga:Ak}
def Out.fl {ρ:Ae}{H:Hp}{st:aa}{D:Ends}{fl:Fl}{E:XK}(h:Out K mg ρ H (.ok fl st) (gS K mg D) E) (s:aX K mg ρ H st):gS K mg D ρ H fl st:=h.now s
def yd:Aj:=λenv st=>.ok (.nx env) st
def gd (g:Aj):Fl->Mo Fl
 | .nx env,st=>g env st
 | fl,st=>.ok fl st
def zw (g g':Aj):Aj:=λenv st=>(g env st).bind (gd g')
def yz:e_ X Er [] yd:=de.weak JO λD U H ⟨env,st,ρ,re,rs,h⟩=>h.now rs U re
def zD (h1:MS X Er st g) (h2:e_ X Er dX g'):e_ X Er (st::dX) (zw g g') :=
 de.weak (JP h1 h2) λD U H ⟨env,st,ρ,re,rs,h⟩=>⟨env,st,ρ,re,rs,h.then λaf H1 fl aq e1 s1 h1=>by
  cases fl with
  | nx bK=>exact λav NZ=>⟨bK,aq,af,NZ,s1,h1⟩
  | rt v=>exact Out.fl (D:=D) (fl:=.rt v) (E:=Er) h1 s1
  | bk bK=>exact Out.fl (D:=D) (fl:=.bk bK) (E:=Er) h1 s1
  | ct bK=>exact Out.fl (D:=D) (fl:=.ct bK) (E:=Er) h1 s1⟩
def zI (h1:MS X Er st g):e_ X Er [st] g:=JQ h1
def zH (i:Nat) (f:Ai):Aj:=λenv st=>(f env st).bind λx aq=>.ok (.nx (env.set i (some x))) aq
def zR (i:Nat) {x:Str}(he:ME X Er e fa) (hN:X.N.Nodup) (hi:X.N[i]?=some x:=by rfl) (hx:Loc X.env.scope x:=by first|exact Or.inl rfl|exact Or.inr rfl) (hs:swapsWith e (some (.Name x pos')) pos.line X.env=pure false:=by rfl)
  (hf:X.fn x=true\/X.env.scope.names.lookup x=some .local:=by first|exact .inl rfl|exact .inr rfl|assumption):MS X Er (.Assign [.Name x pos'] e pos) (zH i fa) :=
 PS.weak (J2 hN hi hx he hs hf) λD U H ⟨env,st,ρ,re,rs,h⟩=>⟨env,st,ρ,re,rs,h.then λaf H1 x aq e1 s1 h1 v rv=>h1.now s1 _ ((re.ext e1).set i rv)⟩
def yK (f:Ai):Aj:=λenv st=>(f env st).bind λ_ aq=>.ok (.nx env) aq
def jJ (he:ME X Er e fa) (hs:swapsWith e none pos.line X.env=pure false:=by rfl):MS X Er (.Expr e pos) (yK fa) :=
 PS.weak (JS he hs) λD U H ⟨env,st,ρ,re,rs,h⟩=>⟨env,st,ρ,re,rs,h.then λaf H1 x aq e1 s1 h1 v rv=>h1.now s1 _ (re.ext e1)⟩
def yb (f:Ai):Aj:=λenv st=>(f env st).bind λx aq=>.ok (.rt x) aq
def yf (he:ME X Er e fa):MS X Er (.Return (some e) pos) (yb fa) :=
 PS.weak (JU he) λD U H ⟨env,st,ρ,re,rs,h⟩=>⟨env,st,ρ,re,rs,h.then λaf H1 x aq e1 s1 h1 v rv=>h1.now s1 _ rv⟩
def zY (t:Ak) (g g':Aj):Aj:=λenv st=>(t env st).bind λc aq=>if c=true then g env aq else g' env aq
def yw {A B:List Stmt}(hc:MT X Er c ga) (ha:e_ X Er A g) (hb:e_ X Er B g'):MS X Er (.If c A B pos) (zY ga g g') :=
 PS.weak (JW hc ha hb) λD U H ⟨env,st,ρ,re,rs,h⟩=>⟨env,st,ρ,re,rs,h.then λaf H1 k aq e1 s1 h1=>by
  cases k with
  | true=>exact ⟨env,aq,af,re.ext e1,s1,h1⟩
  | false=>exact ⟨env,aq,af,re.ext e1,s1,h1⟩⟩
def putK (f:Str) (x:PV):List Str->List PV->List Str×List PV
 | k::ks,y::ys=>if k=f then (k::ks,x::ys) else (k::(putK f x ks ys).1,y::(putK f x ks ys).2)
 | _,_=>([f],[x])
theorem DZ {ρ:Ae}{H:Hp}{f:Str}{x:PV}{v:V}(r:R K mg ρ H x v):∀{ks:Ad}{xs:An}{vs:List V},ks.length=vs.length->Rs K mg ρ H xs vs->∃ws,cm f v (ks.zip vs)=(putK f x ks xs).1.zip ws/\Rs K mg ρ H (putK f x ks xs).2 ws/\(putK f x ks xs).1.length=ws.length
 | [],xs,vs,hl,h=>by
  have:vs=[]:=by cases vs with|nil=>rfl|cons=>simp at hl
  subst this
  have:xs=[]:=by cases xs with|nil=>rfl|cons=>obtain ⟨_,_,e,_⟩:=h;cases e
  subst this
  exact ⟨[v],rfl,⟨v,[],rfl,r,rfl⟩,rfl⟩
 | k::ks,xs,vs,hl,h=>by
  cases vs with
  | nil=>simp at hl
  | cons v0 vs =>
   cases xs with
   | nil=>cases h
   | cons y ys =>
    obtain ⟨VO,r',e,h1,h2⟩:=h
    cases e
    simp only [putK,List.zip_cons_cons,cm]
    by_cases hk:k=f
    ·rw [zF hk,zF hk]
     exact ⟨v::vs,rfl,⟨v,vs,rfl,r,h2⟩,by simpa using hl⟩
    ·rw [zP hk,zP hk]
     obtain ⟨ws,e1,e2,e3⟩:=DZ r (by simpa using hl) h2
     exact ⟨v0::ws,by rw [e1];rfl,⟨v0,ws,rfl,h1,e2⟩,by simp [e3]⟩
def putAt (f:Str) (ins:Str->Bool) (x:PV):PV->Mo Unit
 | .ref n,st=>j7 st n λc ks xs=>if ins c=true/\ks.length<1000 then .ok () (st.set n (.ins c (putK f x ks xs).1 (putK f x ks xs).2)) else .stuck
 | _,_=>.stuck
def sFld (f:Str) (ins:Str->Bool) (fo fv:Ai):Aj:=λenv st=>(fv env st).bind λx aq=>(fo env aq).bind λo ay=>(putAt f ins x o ay).bind λ_ aS=>.ok (.nx env) aS
theorem D0 {f:Str}{ins exc:Str->Bool}(F:FldF X.K X.mg f ins exc) (ho:ME X Er o fo) (he:ME X Er e fa) (hs:swapsWith e (some (.Attribute o f pos')) pos.line X.env=pure false:=by rfl):MS X Er (.Assign [.Attribute o f pos'] e pos) (sFld f ins fo fa) :=
 PS.weak (KU ho he hs) λD U H ⟨env,st,ρ,re,rs,h⟩=>⟨env,st,ρ,re,rs,h.then λaf H1 x aq e1 s1 h1 v rv=>⟨env,aq,af,re.ext e1,s1,h1.then λap H2 y ay e2 s2 h2 w rw=>by
  cases y with
  | ref n =>
   cases hn:ay[n]? with
   | none=>simp only [putAt,j7,hn] at h2;exact h2.elim
   | some so =>
    cases so with
    | lst _=>simp only [putAt,j7,hn] at h2;exact h2.elim
    | dic _ _=>simp only [putAt,j7,hn] at h2;exact h2.elim
    | fdi _ _=>simp only [putAt,j7,hn] at h2;exact h2.elim
    | dit _ _=>simp only [putAt,j7,hn] at h2;exact h2.elim
    | ins c ks xs =>
     simp only [putAt,j7,hn] at h2
     by_cases hc:ins c=true/\ks.length<1000
     ·rw [zF hc] at h2
      obtain ⟨p,rfl,hp⟩:=rw
      obtain ⟨C',dx,vs,hC',hH,hR,hl⟩:=s2.addr hn hp
      obtain ⟨C,hC,cl,na⟩:=F.i c hc.1
      rw [hC] at hC'
      cases hC'
      obtain ⟨ws,k1,k2,k3⟩:=DZ (f:=f) (R.ext e2 x rv) hl hR
      refine ⟨p,_,dx,_,rfl,hH,cl,na,?_,?_⟩
      ·rw [List.length_zip,<-hl];have:=hc.2;omega
      ·have ew:Ext ap H2 ap (upd H2 p (.ins C' dx (cm f v (ks.zip vs)))):=Ext.write hH rfl
       exact h2 ap _ ew (s2.write hp ew ⟨_,dx,ws,hC,by rw [jf,k1],Rs.ext ew _ k2,k3⟩) U (((re.ext e1).ext e2).ext ew)
     ·rw [zP hc] at h2;exact h2.elim
  | _=>exact h2.elim⟩⟩
def MG (X:Cx) (Er:XK) (e:Expr) (g:PV->zm->Option zm):Prop:=PG X e λv U H Q=>∃x env bp ρ,R X.K X.mg ρ H x v/\bg X.K X.mg ρ H env U/\g x env=some bp/\∀ai,bg X.K X.mg ρ H bp ai->Q ai H
def PG.weak {t t':TG}(h:PG X e t) (w:∀v U H Q,t' v U H Q->t v U H Q):PG X e t':=λpins s U H v u Q I r q=>h pins s U H v u Q I r (w v U H Q q)
def gN (i:Nat):PV->zm->Option zm:=λx env=>some (env.set i (some x))
def wf (i:Nat) {x:Str}(hN:X.N.Nodup) (hi:X.N[i]?=some x:=by rfl) (hx:Loc X.env.scope x:=by first|exact Or.inl rfl|exact Or.inr rfl) (hf:X.fn x=true\/X.env.scope.names.lookup x=some .local:=by first|exact .inl rfl|exact .inr rfl|assumption):MG X Er (.Name x pos) (gN i) :=
 PG.weak (ik hN hi hx hf) λv U H Q ⟨x,env,bp,ρ,rx,re,hg,q⟩=>by
  cases hg
  exact q _ (re.set i rx)
def g2 (i j:Nat):PV->zm->Option zm
 | .tup [x,y],env=>some ((env.set i (some x)).set j (some y))
 | _,_=>none
def N0 {i j:Nat}{x:PV}{env bp:zm}(h:g2 i j x env=some bp):∃y z,x=.tup [y,z]/\bp=(env.set i (some y)).set j (some z):=by
 unfold g2 at h
 split at h
 ·cases h;exact ⟨_,_,rfl,rfl⟩
 ·cases h
def qg (i j:Nat) {x y:Str}{kt:Nat}{px py:Pos}(hc:X.calm=true) (hN:X.N.Nodup) (hi:X.N[i]?=some x:=by rfl) (hj:X.N[j]?=some y:=by rfl) (hx:Loc X.env.scope x:=by first|exact Or.inl rfl|exact Or.inr rfl) (hy:Loc X.env.scope y:=by first|exact Or.inl rfl|exact Or.inr rfl)
  (hf:X.fn x=true\/X.env.scope.names.lookup x=some .local:=by first|exact .inl rfl|exact .inr rfl|assumption) (N3:X.fn y=true\/X.env.scope.names.lookup y=some .local:=by first|exact .inl rfl|exact .inr rfl|assumption):MG X Er (.Tuple [.Name x px,.Name y py] kt pos) (g2 i j) :=
 PG.weak (vg (n:=2) hc (nW (ik hN hi hx hf) (nW (ik hN hj hy N3) vd))) λv U H Q ⟨x,env,bp,ρ,rx,re,hg,q⟩=>by
  obtain ⟨y,z,rfl,rfl⟩:=N0 hg
  obtain ⟨a,vs,rfl,h1,h2⟩:=rx
  obtain ⟨u,w,rfl,r1,r2⟩:=Rs.two h2
  exact ⟨a,_,rfl,h1,rfl,u,[w],rfl,w,[],rfl,rfl,q _ ((re.set i r1).set j r2)⟩
def g3 (i j k:Nat):PV->zm->Option zm
 | .tup [x,y,z],env=>some (((env.set i (some x)).set j (some y)).set k (some z))
 | _,_=>none
def qh (g:PV->zm->Option zm) (f:Ai):Aj:=λenv st=>(f env st).bind λx aq=>match g x env with
 | some bp=>.ok (.nx bp) aq
 | none=>.stuck
def zpp {tg:Expr}{gt:PV->zm->Option zm}(hg:MG X Er tg gt) (he:ME X Er e fa) (hs:swapsWithSole [tg] e pos.line X.env=pure false:=by rfl) (hw:swappedStores [tg] e X.env=pure none:=by rfl)
  (h1:(assignEach [tg] X.env).map (·.2)=[assign tg X.env]:=by rfl):MS X Er (.Assign [tg] e pos) (qh gt fa) :=
 PS.weak (Cq he hg hs hw h1) λD U H ⟨env,st,ρ,re,rs,h⟩=>⟨env,st,ρ,re,rs,h.then λaf H1 x aq e1 s1 h1 v rv=>by
  cases hx:gt x env with
  | none=>simp only [hx] at h1;exact h1.elim
  | some bp =>
   simp only [hx] at h1
   exact ⟨x,env,bp,af,rv,re.ext e1,hx,λai r'=>Out.now (x:=Fl.nx bp) h1 s1 ai r'⟩⟩
inductive Sq where
 | im (xs:An)|rf (n:Nat)
def Walk (K:Frag) (mg:Ab) (J:It) (ρ:Ae) (H:Hp):Sq->Prop
 | .im xs=>(∀i ah H',Ext ρ H ah H'->i<xs.length->J.go i H')/\(∀i ah H',Ext ρ H ah H'->xs.length<=i->J.stop i H') /\
  ∀i ah H' st v H2,Ext ρ H ah H'->aX K mg ah H' st->i<xs.length->J.yld i H' v H2->∃x,xs[i]?=some x/\Ext ah H' ah H2/\aX K mg ah H2 st/\R K mg ah H2 x v
 | .rf n=>∃a,ρ[n]?=some a/\J=rM K a
def MI (X:Cx) (Er:XK) (tg iter:Expr) (src:zm->Mo Sq):Prop:=PI X tg iter λU H R=>∃env st ρ,bg X.K X.mg ρ H env U/\aX X.K X.mg ρ H st/\Out X.K X.mg ρ H (src env st) (λah H' q bu=>∀J,Walk X.K X.mg J ah H' q->R J H') Er
def forL (g:PV->zm->Option zm) (body:Aj):List PV->Aj
 | [],env,st=>.ok (.nx env) st
 | x::xs,env,st=>match g x env with
  | none=>.stuck
  | some bK=>(body bK st).bind λfl ay=>match fl with
   | .nx e=>forL g body xs e ay
   | .ct e=>forL g body xs e ay
   | .bk e=>.ok (.nx e) ay
   | .rt v=>.ok (.rt v) ay
def forR (g:PV->zm->Option zm) (body:Aj) (n:Nat):Nat->Nat->Aj
 | 0,_,_,_=>.stuck
 | m+1,i,env,st=>yi st n λxs=>match xs[i]? with
  | none=>.ok (.nx env) st
  | some x=>match g x env with
   | none=>.stuck
   | some bK=>(body bK st).bind λfl ay=>match fl with
    | .nx e=>forR g body n m (i+1) e ay
    | .ct e=>forR g body n m (i+1) e ay
    | .bk e=>.ok (.nx e) ay
    | .rt v=>.ok (.rt v) ay
def qi (g:PV->zm->Option zm) (body:Aj):Sq->Aj
 | .im xs=>forL g body xs
 | .rf n=>forR g body n (lim+1) 0
def yV (src:zm->Mo Sq) (g:PV->zm->Option zm) (body:Aj):Aj:=λenv st=>(src env st).bind λq aq=>qi g body q env aq
theorem j8 {tg iter:Expr}{src:zm->Mo Sq}{gt:PV->zm->Option zm}(hp:PassesOwn (model X.prog X.w) X.A X.env X.xe) (hc:X.calm=true) (hi:MI X Er tg iter src) (hg:MG X Er tg gt) (hb:e_ X Er dX gb)
  (hs:∀x,foldedSetIterable iter X.env x=pure x:=by intro _;rfl):MS X Er (.For tg iter dX [] pos) (yV src gt gb) :=
 PS.weak (vi hp hc hi hg hb hs) λD U H ⟨env,st,ρ,re,rs,h⟩=>⟨env,st,ρ,re,rs,h.then λar H0 q dD e0 s0 h0 J wk=>by
  cases q with
  | im xs =>
   obtain ⟨w1,w2,w3⟩:=wk
   refine ⟨λi m U H=>m=xs.length-i/\i<=xs.length/\∃env st ρ,bg X.K X.mg ρ H env U/\aX X.K X.mg ρ H st/\Ext ar H0 ρ H/\Out X.K X.mg ρ H (forL gt gb (xs.drop i) env st) (gS X.K X.mg D) Er,⟨xs.length,by simp,jB _,env,dD,ar,re.ext e0,s0,Ext.refl,h0⟩,?_⟩
   rintro i m U H ⟨rfl,hi,env,st,ρ,re,rs,ex,h⟩
   by_cases bj:i<xs.length
   ·refine .inr ⟨w1 i ρ H ex bj,_,λai H' p'=>⟨xs.length-(i+1),by omega,rfl,bj,p'⟩,λv H' y=>?_⟩
    obtain ⟨x,hx,bX,s2,rx⟩:=w3 i ρ H st v H' ex rs bj y
    have hd:xs.drop i=x::xs.drop (i+1):=by
     rw [wa bj]
     have:=(yt.mp hx).2
     rw [this]
    rw [hd] at h
    cases hgx:gt x env with
    | none=>simp only [forL,hgx] at h;exact h.elim
    | some bK =>
     simp only [forL,hgx] at h
     refine ⟨x,env,bK,ρ,rx,re.ext bX,hgx,λav r1=>⟨bK,st,ρ,r1,s2,Out.then (Out.ext h bX) λaj H3 fl aS e3 s3 h3=>?_⟩⟩
     cases fl with
     | nx e=>exact λaA r4=>⟨e,aS,aj,r4,s3,(ex.trans bX).trans e3,h3⟩
     | ct e=>exact λaA r4=>⟨e,aS,aj,r4,s3,(ex.trans bX).trans e3,h3⟩
     | bk e=>exact Out.fl (D:=D) (fl:=.nx e) (E:=Er) h3 s3
     | rt v=>exact Out.fl (D:=D) (fl:=.rt v) (E:=Er) h3 s3
   ·have e:i=xs.length:=by omega
    subst e
    rw [List.drop_length] at h
    exact .inl ⟨w2 _ ρ H ex (ym _),Out.now (x:=Fl.nx env) h rs U re⟩
  | rf n =>
   obtain ⟨a,ha,rfl⟩:=wk
   refine ⟨λi m U H=>∃env st ρ,bg X.K X.mg ρ H env U/\aX X.K X.mg ρ H st/\ρ[n]?=some a/\Out X.K X.mg ρ H (forR gt gb n m i env st) (gS X.K X.mg D) Er,⟨lim+1,env,dD,ar,re.ext e0,s0,ha,h0⟩,?_⟩
   rintro i m U H ⟨env,st,ρ,re,rs,ha,h⟩
   cases m with
   | zero=>exact h.elim
   | succ m =>
    obtain ⟨xs,hn,h⟩:=jp h
    obtain ⟨vs,hH,hR⟩:=rs.addr hn ha
    cases hx:xs[i]? with
    | none =>
     simp only [hx] at h
     have:vs.length<=i:=by rw [<-hR.len];exact kJ.mp hx
     exact .inl ⟨⟨vs,aQ.of hH,this⟩,Out.now (x:=Fl.nx env) h rs U re⟩
    | some x =>
     simp only [hx] at h
     obtain ⟨v,hv,rv⟩:=hR.get hx
     refine .inr ⟨⟨vs,v,aQ.of hH,hv⟩,_,λai H' p'=>⟨m,wv m,p'⟩,λv' H' y=>?_⟩
     obtain ⟨e1,y⟩:=y
     subst e1
     have e2:=y vs (aQ.of hH)
     rw [hv] at e2
     cases e2
     cases hgx:gt x env with
     | none=>simp only [hgx] at h;exact h.elim
     | some bK =>
      simp only [hgx] at h
      refine ⟨x,env,bK,ρ,rv,re,hgx,λav r1=>⟨bK,st,ρ,r1,rs,Out.then h λaj H3 fl aS e3 s3 h3=>?_⟩⟩
      cases fl with
      | nx e=>exact λaA r4=>⟨e,aS,aj,r4,s3,e3.get ha,h3⟩
      | ct e=>exact λaA r4=>⟨e,aS,aj,r4,s3,e3.get ha,h3⟩
      | bk e=>exact Out.fl (D:=D) (fl:=.nx e) (E:=Er) h3 s3
      | rt v=>exact Out.fl (D:=D) (fl:=.rt v) (E:=Er) h3 s3⟩
end
section
variable {X:Cx}{Er:XK}{K:Frag}{mg:Ab}{a b c e o tg:Expr}{es:List Expr}{st:Stmt}{dX:List Stmt}{pos p apos pos':Pos}{fa fb fc fo:Ai}{fs:Ah}{k:Nat}{x:Str}{m:Al}
variable {g g' gb:Aj}{ga:Ak}
def PI.weak {t t':TI}(h:PI X tg e t) (w:∀U H Q,t' U H Q->t U H Q):PI X tg e t':=λpins s U H Q I q=>h pins s U H Q I (w U H Q q)
def N4 (K:Frag) (tl:TE):TI:=λU H R=>tl U H λx H1=>(∃a,x=.ref a/\(∃xs,aQ K H1 a xs)/\R (rM K a) H1)\/(∃a,x=.ref a/\(∃xs,aW K H1 a xs)/\R (nX K a) H1)\/∃z,x=.str z/\R (vH z) H1
def N5 {l:Expr}{tl:TE}(hl:PE X l tl):PI X tg l (N4 X.K tl):=by
 intro pins s U H R I h
 refine aP (hl pins s U H _ I h) λv s1 ⟨x,H1,I1,r1,q1⟩=>?_
 have fin:∀b∈[s1.heap.objs.size],df X pins H1 b:=λb hb=>by
  have e:b=s1.heap.objs.size:=by simpa using hb
  subst e
  exact I1.fpOk (ym _) (I1.hok.fresh (ym _))
 rcases q1 with ⟨a,e,⟨xs,hq⟩,q⟩|⟨a,e,⟨xs,hq⟩,q⟩|⟨z,rfl,q⟩
 ·subst e
  cases r1
  obtain ⟨its,rv,p,hz⟩:=I1.list hq
  exact wpAny_pyIter_list p.isList ⟨s1.heap.objs.size,[s1.heap.objs.size],_,_,H1,rfl,I1.kept (t':=s1.toks) (λb o e=>yh _ e),J5 a _,⟨_,yW _ rfl,rfl,rfl⟩,fin,q⟩
 ·subst e
  cases r1
  obtain ⟨its,rv,p,hz⟩:=I1.tuple hq
  exact wpAny_pyIter_tuple (show s1.heap.IsTuple a its.toArray from p) ⟨s1.heap.objs.size,[s1.heap.objs.size],_,_,H1,rfl,I1.kept (t':=s1.toks) (λb o e=>yh _ e),J6 a _,⟨_,yW _ rfl,rfl,rfl⟩,fin,q⟩
 ·obtain ⟨t,rfl⟩:=r1
  cases ha:z.cps.all (·<128) with
  | false=>exact wpAny_pyIter_wide ha ⟨s1.heap.objs.size,[s1.heap.objs.size],_,_,H1,rfl,I1.kept (t':=s1.toks) (λb o e=>yh _ e),Dm z t _ "str_iterator" (.inr rfl),⟨_,yW _ rfl,rfl,rfl⟩,fin,q⟩
  | true=>exact wpAny_pyIter_ascii ha ⟨s1.heap.objs.size,[s1.heap.objs.size],_,_,H1,rfl,I1.kept (t':=s1.toks) (λb o e=>yh _ e),Dm z t _ "str_ascii_iterator" (.inl rfl),⟨_,yW _ rfl,rfl,rfl⟩,fin,q⟩
def N6 {ρ:Ae}{H:Hp}{a:Addr}{xs:An}{vs:List V}(h:aW K H a vs) (r:Rs K mg ρ H xs vs):Walk K mg (nX K a) ρ H (.im xs):=by
 refine ⟨λi ah H' e hi=>?_,λi ah H' e hi=>⟨vs,e.sqT h,by rw [<-r.len];exact hi⟩,λi ah H' st v H2 e s hi y=>?_⟩
 ·obtain ⟨v,hv,_⟩:=r.get (yx hi)
  exact ⟨vs,v,e.sqT h,hv⟩
 ·obtain ⟨e1,y⟩:=y
  subst e1
  obtain ⟨v',hv,rv⟩:=r.get (yx hi)
  have:=y vs (e.sqT h)
  rw [hv] at this
  cases this
  exact ⟨_,yx hi,Ext.refl,s,R.ext e _ rv⟩
def N7 {ρ:Ae}{H:Hp}{a:Addr}{xs:An}{vs:List V}(h:kh K H a vs) (r:Rs K mg ρ H xs vs):Walk K mg (rM K a) ρ H (.im xs):=by
 have hs:∀{ah H'},Ext ρ H ah H'->aQ K H' a vs:=λe=>(e.frl h).sq
 refine ⟨λi ah H' e hi=>?_,λi ah H' e hi=>⟨vs,hs e,by rw [<-r.len];exact hi⟩,λi ah H' st v H2 e s hi y=>?_⟩
 ·obtain ⟨v,hv,_⟩:=r.get (yx hi)
  exact ⟨vs,v,hs e,hv⟩
 ·obtain ⟨e1,y⟩:=y
  subst e1
  obtain ⟨v',hv,rv⟩:=r.get (yx hi)
  have:=y vs (hs e)
  rw [hv] at this
  cases this
  exact ⟨_,yx hi,Ext.refl,s,R.ext e _ rv⟩
def signs (z:Str):An:=z.cps.toList.map λc=>.str ⟨#[c]⟩
def N8 {ρ:Ae}{H:Hp}(z:Str):Walk K mg (vH z) ρ H (.im (signs z)):=by
 have hl:(signs z).length=z.cps.size:=by simp [signs]
 refine ⟨λi ah H' e hi=>by rw [hl] at hi;exact hi,λi ah H' e hi=>by rw [hl] at hi;exact hi,λi ah H' st v H2 e s hi y=>?_⟩
 obtain ⟨e1,c,hc,e2⟩:=y
 subst e1 e2
 refine ⟨.str ⟨#[c]⟩,?_,Ext.refl,s,rfl⟩
 simp [signs,hc]
def nums (lo:Int) (n:Nat):An:=(List.range n).map λi=>.int (lo+(i:Nat))
def N_ {ρ:Ae}{H:Hp}(lo:Int) (n:Nat):Walk K mg (pz lo n) ρ H (.im (nums lo n)):=by
 have hl:(nums lo n).length=n:=by simp [nums]
 refine ⟨λi ah H' e hi=>by rw [hl] at hi;exact hi,λi ah H' e hi=>by rw [hl] at hi;exact hi,λi ah H' st v H2 e s hi y=>?_⟩
 obtain ⟨e1,e2⟩:=y
 subst e1 e2
 rw [hl] at hi
 exact ⟨.int (lo+i),by simp [nums,hi],Ext.refl,s,rfl⟩
def gM:PV->Mo Sq
 | .tup xs,st=>.ok (.im xs) st
 | .frl xs,st=>.ok (.im xs) st
 | .str z,st=>.ok (.im (signs z)) st
 | .ref n,st=>yi st n λ_=>.ok (.rf n) st
 | _,_=>.stuck
def yG (f:Ai):zm->Mo Sq:=λenv st=>(f env st).bind gM
def jF (h:ME X Er e fa):MI X Er tg e (yG fa):=PI.weak (N5 h) λU H Q ⟨env,st,ρ,re,rs,h⟩=>⟨env,st,ρ,re,rs,h.then λaf H1 x aq e1 s1 h1 v rv=>by
 cases x with
 | tup xs =>
  obtain ⟨a,vs,rfl,k1,k2⟩:=rv
  exact .inr (.inl ⟨a,rfl,⟨vs,k1⟩,Out.now (x:=Sq.im xs) h1 s1 _ (N6 k1 k2)⟩)
 | frl xs =>
  obtain ⟨a,vs,rfl,k1,k2⟩:=rv
  exact .inl ⟨a,rfl,⟨vs,k1.sq⟩,Out.now (x:=Sq.im xs) h1 s1 _ (N7 k1 k2)⟩
 | str z =>
  cases rv
  exact .inr (.inr ⟨z,rfl,Out.now (x:=Sq.im (signs z)) h1 s1 _ (N8 z)⟩)
 | ref n =>
  obtain ⟨a,rfl,ha⟩:=rv
  obtain ⟨xs,hn,h1⟩:=jp h1
  obtain ⟨vs,k1,k2⟩:=s1.addr hn ha
  exact .inl ⟨a,rfl,⟨vs,aQ.of k1⟩,h1.now s1 _ ⟨a,ha,rfl⟩⟩
 | _=>exact h1.elim⟩
abbrev cR (j:Int):Bool:=decide (-(2 ^ 62)<=j)&&decide (j<2 ^ 62)
def mH:List PV->Mo Sq
 | [.int j],st=>if cR j=true then .ok (.im (nums 0 j.toNat)) st else .stuck
 | _,_=>.stuck
def Oa:List PV->Mo Sq
 | [.int i,.int j],st=>if cR i=true/\cR j=true then .ok (.im (nums i (j-i).toNat)) st else .stuck
 | _,_=>.stuck
def Ob {ρ:Ae}{H:Hp}{xs:An}{st:aa}{good:List Addr->Hp->Sq->aa->Prop}(h:Out K mg ρ H (mH xs st) good Er):∃j,xs=[.int j] /\ -(2 ^ 62)<=j/\j<2 ^ 62/\Out K mg ρ H (.ok (.im (nums 0 j.toNat)) st) good Er:=by
 unfold mH at h
 split at h
 ·obtain ⟨c,h⟩:=Out.ifp h
  simp [cR] at c
  exact ⟨_,rfl,c.1,c.2,h⟩
 ·exact h.elim
def bP (fs:Ah):zm->Mo Sq:=λenv st=>(fs env st).bind mH
def vh (fs:Ah):zm->Mo Sq:=λenv st=>(fs env st).bind Oa
def Oc {a:Expr} (hm:X.mg "range" = none) (ha:MA X Er [a] fs) (hg:Gl X "range" := by rfl) (hs:starEach [a] X.env=[(false,eval a X.env)]:=by rfl):MI X Er tg (.Call (.Name "range" p) [a] [] pos) (bP fs) :=
 PI.weak (J9 hg hm ha hs) λU H Q ⟨env,st,ρ,re,rs,h⟩=>⟨env,st,ρ,re,rs,h.then λaf H1 xs aq e1 s1 h1 vs rv=>by
  obtain ⟨j,rfl,c1,c2,h1⟩:=Ob h1
  obtain ⟨v,rfl,rfl⟩:=Rs.one rv
  exact ⟨j,rfl,c1,c2,h1.now s1 _ (N_ 0 j.toNat)⟩⟩
def wD (xs ys:An):An:=(xs.zip ys).map λq=>.tup [q.1,q.2]
def xk:List PV->Mo Sq
 | [.tup xs,.tup ys],st=>.ok (.im (wD xs ys)) st
 | _,_=>.stuck
def Od {ρ:Ae}{H:Hp}{xs:An}{st:aa}{good:List Addr->Hp->Sq->aa->Prop}(h:Out K mg ρ H (xk xs st) good Er):∃ys zs,xs=[.tup ys,.tup zs]/\Out K mg ρ H (.ok (.im (wD ys zs)) st) good Er:=by
 unfold xk at h
 split at h
 ·exact ⟨_,_,rfl,h⟩
 ·exact h.elim
theorem Oe {ρ:Ae}{H:Hp}{a b:Addr}{xs ys:An}{vs ws:List V}(h:aW K H a vs) (r:Rs K mg ρ H xs vs) (h':aW K H b ws) (r':Rs K mg ρ H ys ws):Walk K mg (vT K a b) ρ H (.im (wD xs ys)):=by
 have hl:(wD xs ys).length=min xs.length ys.length:=by simp [wD]
 have l1:=r.len
 have l2:=r'.len
 refine ⟨λi ah H' e hi=>?_,λi ah H' e hi=>⟨vs,ws,e.sqT h,e.sqT h',by rw [hl] at hi;omega⟩,λi ah H' st v H2 e s hi y=>?_⟩
 ·rw [hl] at hi
  obtain ⟨v,hv,_⟩:=r.get (yx (show i<xs.length by omega))
  obtain ⟨w,hw,_⟩:=r'.get (yx (show i<ys.length by omega))
  exact ⟨vs,ws,v,w,e.sqT h,e.sqT h',hv,hw⟩
 ·rw [hl] at hi
  obtain ⟨T,v',w',hT,rfl,rfl,y1,y2⟩:=y
  have k1:i<xs.length:=by omega
  have k2:i<ys.length:=by omega
  obtain ⟨v,hv,rv⟩:=r.get (yx k1)
  obtain ⟨w,hw,dy⟩:=r'.get (yx k2)
  have q1:=y1 vs (e.sqT h)
  have q2:=y2 ws (e.sqT h')
  rw [hv] at q1
  rw [hw] at q2
  cases q1;cases q2
  refine ⟨.tup [xs[i],ys[i]],?_,Ext.new hT,s.new hT,R.tup_of ⟨_,[_],rfl,R.ext e _ rv,_,[],rfl,R.ext e _ dy,rfl⟩ hT⟩
  rw [wD,yM,yx (by simp;omega)]
  simp
def D3 (fs:Ah):zm->Mo Sq:=λenv st=>(fs env st).bind xk
def Of {elts:List Expr} {kt:Nat} {tp:Pos} {x y:Expr} (hm:X.mg "zip" = none) (ha:MA X Er [x,y] fs) (hg:Gl X "zip" := by rfl) (hs:starEach [x,y] X.env=[(false,eval x X.env),(false,eval y X.env)]:=by rfl) (fW:starEach [y] X.env=[(false,eval y X.env)]:=by rfl) :
  MI X Er (.Tuple elts kt tp) (.Call (.Name "zip" p) [x,y] [] pos) (D3 fs) :=
 PI.weak (M8 hg hm ha hs fW) λU H Q ⟨env,st,ρ,re,rs,h⟩=>⟨env,st,ρ,re,rs,h.then λaf H1 xs aq e1 s1 h1 vs rv=>by
  obtain ⟨ys,zs,rfl,h1⟩:=Od h1
  obtain ⟨v,w,rfl,⟨a,us,rfl,k1,k2⟩,⟨b,ws,rfl,k3,k4⟩⟩:=Rs.two rv
  exact ⟨a,b,rfl,⟨us,k1⟩,⟨ws,k3⟩,h1.now s1 _ (Oe k1 k2 k3 k4)⟩⟩
def bZ (t:Ak) (b:Aj):Nat->Aj
 | 0,_,_=>.stuck
 | n+1,env,st=>(t env st).bind λc aq=>if c=true then (b env aq).bind λfl ay=>match fl with
   | .nx e=>bZ t b n e ay
   | .ct e=>bZ t b n e ay
   | .bk e=>.ok (.nx e) ay
   | .rt v=>.ok (.rt v) ay
  else .ok (.nx env) aq
def xl (t:Ak) (b:Aj):Aj:=bZ t b lim
def D4 (hp:PassesOwn (model X.prog X.w) X.A X.env X.xe) (hc:MT X Er c ga) (hb:e_ X Er dX gb):MS X Er (.While c dX [] pos) (xl ga gb) :=
 PS.weak (J4 hp hc hb) λD U H ⟨env,st,ρ,re,rs,h⟩=>by
  refine ⟨λm U H=>∃env st ρ,bg X.K X.mg ρ H env U/\aX X.K X.mg ρ H st/\Out X.K X.mg ρ H (bZ ga gb m env st) (gS X.K X.mg D) Er,⟨lim,env,st,ρ,re,rs,h⟩,?_⟩
  rintro m U H ⟨env,st,ρ,re,rs,h⟩
  cases m with
  | zero=>exact h.elim
  | succ m =>
   refine ⟨env,st,ρ,re,rs,Out.then h λaf H1 k aq e1 s1 h1=>?_⟩
   cases k with
   | true =>
    change (if true=true then _ else D.nx U H1)
    rw [zF rfl]
    refine ⟨_,λai H' p'=>⟨m,wv m,p'⟩,env,aq,af,re.ext e1,s1,Out.then h1 λaj H3 fl aS e3 s3 h3=>?_⟩
    cases fl with
    | nx e=>exact λaA r4=>⟨e,aS,aj,r4,s3,h3⟩
    | ct e=>exact λaA r4=>⟨e,aS,aj,r4,s3,h3⟩
    | bk e=>exact Out.fl (D:=D) (fl:=.nx e) (E:=Er) h3 s3
    | rt v=>exact Out.fl (D:=D) (fl:=.rt v) (E:=Er) h3 s3
   | false =>
    have z:D.nx U H1:=Out.fl (D:=D) (fl:=.nx env) (E:=Er) h1 s1 U (re.ext e1)
    exact z
def pY (cn:Str):Aj:=λ_ st=>.err cn [] [] st
def cS {α:Type}:Res α->Res α
 | .err _ _ _ _=>.stuck
 | r=>r
def gO {α β:Type}{ρ:Ae}{H:Hp}{r:Res β}{f:β->Mo α}{good:List Addr->Hp->α->aa->Prop}{d5:List Addr->Hp->β->aa->Prop}{E E':XK}(h:Out K mg ρ H ((cS r).bind f) good E) (g:∀ah H' x st,Ext ρ H ah H'->aX K mg ah H' st->Out K mg ah H' (f x st) good E->d5 ah H' x st):Out K mg ρ H r d5 E':=by
 cases r with
 | ok x st=>exact λah H' e s=>g ah H' x st e s (Out.ext h e)
 | err=>exact h.elim
 | stuck=>exact h.elim
def yJ:Am
 | .ref n,y,st=>yi st n λxs=>if xs.length<lim then .ok .non (st.set n (.lst (xs++[y]))) else .stuck
 | _,_,_=>.stuck
def Og:Am
 | .ref n,.ref k,st=>yi st n λxs=>yi st k λys=>if xs.length+ys.length<=lim then .ok .non (st.set n (.lst (xs++ys))) else .stuck
 | _,_,_=>.stuck
def R.refL {ρ:Ae}{H:Hp}{st:aa}{n:Nat}{xs:An}{v:V}(s:aX K mg ρ H st) (r:R K mg ρ H (.ref n) v) (h:st[n]?=some (.lst xs)):∃a vs,v=.ref a/\ρ[n]?=some a/\H a=some (.lst vs)/\Rs K mg ρ H xs vs:=by
 obtain ⟨a,rfl,ha⟩:=r
 obtain ⟨vs,h1,h2⟩:=s.addr h ha
 exact ⟨a,vs,rfl,ha,h1,h2⟩
def lx:PV->Mo PV
 | .ref n,st=>yi st n λ_=>.ok (.ref n) st
 | _,_=>.stuck
def yF (op:Am) (fo fv:Ai):Ai:=λenv st=>(fo env st).bind λo aq=>(lx o aq).bind λo aq=>(fv env aq).bind λy ay=>op o y ay
def xm {α:Type}{ρ:Ae}{H:Hp}{x:PV}{st:aa}{f:PV->Mo α}{good:List Addr->Hp->α->aa->Prop}(h:Out K mg ρ H ((lx x st).bind f) good Er):∃n xs,x=.ref n/\st[n]?=some (.lst xs)/\Out K mg ρ H (f (.ref n) st) good Er:=by
 cases x with
 | ref n =>
  unfold lx yi at h
  cases hn:st[n]? with
  | none=>simp only [hn] at h;exact h.elim
  | some so =>
   cases so with
   | lst xs=>simp only [hn] at h;exact ⟨n,xs,rfl,hn,h⟩
   | _=>simp only [hn] at h;exact h.elim
 | _=>exact h.elim
theorem jT {a7:Pos} (ho:ME X Er o fo) (he:ME X Er e fa) (eX:attributeBase o "append" X.env (eval o X.env)=eval o X.env:=by rfl)
  (gy:((backTo a7 (starEach [e] X.env)).all (λx=>!x.1)&&(backToKw a7 (keywordEach [] X.env)).all (λx=>x.1.isSome)&&decide ([e].length+([]:List Keyword).length+(if ([]:List Keyword).isEmpty then 0 else 1)<30))=true:=by rfl)
  (eY:(apos.endLine==a7.line)=true:=by rfl) (hs:starEach [e] X.env=(false,eval e X.env)::starEach [] X.env:=by rfl) (bU:(backTo a7 (starEach [] X.env)).any (·.1)=false:=by rfl):ME X Er (.Call (.Attribute o "append" apos) [e] [] a7) (yF yJ fo fa) :=
 PE.weak (vo PySem.F.plainAttrs_list PySem.F.slot_list_append PySem.F.type_list_append znS ho (rR he rQ hs) eX gy eY hs bU) λU H Q ⟨env,st,ρ,re,rs,h⟩=>⟨env,st,ρ,re,rs,h.then λaf H1 x aq e1 s1 h1 v rv=>by
  obtain ⟨n,xs,rfl,hn,h1⟩:=xm h1
  obtain ⟨p,vs,rfl,hp,k1,k2⟩:=R.refL s1 rv hn
  refine ⟨.inl ⟨rfl,vs,aQ.of k1⟩,env,aq,af,re.ext e1,s1,h1.then λap H2 y ay e2 s2 h2 w rw=>?_⟩
  obtain ⟨xs2,fj,h2⟩:=jp h2
  obtain ⟨c,h2⟩:=Out.ifp h2
  obtain ⟨p',fN,e3,i_,k3,k4⟩:=R.refL s2 (R.ext e2 _ rv) fj
  cases e3
  have ew:Ext ap H2 ap (upd H2 p (.lst (fN++[w]))):=Ext.write k3 rfl
  refine ⟨p,fN,w,rfl,rfl,k3,?_,h2 ap _ ew (s2.write i_ ew ⟨fN++[w],jf,Rs.ext ew _ (k4.append ⟨w,[],rfl,rw,rfl⟩)⟩) _ rfl⟩
  rw [<-k4.len,sizeLine_eq];have:xs2.length<1000000:=c;omega⟩
end
def endOf:Fl->Mo PV
 | .rt v,st=>.ok v st
 | .nx _,st=>.ok .non st
 | _,_=>.stuck
def yq (np nN:Nat) (g:Aj):Al:=λxs st=>if xs.length=np then (g (xs.map some++List.replicate (nN-np) none) st).bind endOf else .stuck
section
variable {P:Program}{w:World}{K:Frag}{mg:Ab}{base:Heap}
abbrev sJ (P:Program) (w:World) (K:Frag) (mg:Ab) (base:Heap) (N:Ad) (qual:Str) (scope:Scope) (f:Addr) (cd:Value) (A:Around) (outer:List Env) (s:Shared) (H:Hp) (E:XK):Cx :=
 (dY (cZ P w) P w K mg base N qual scope f cd A outer s H E).wish (XA (dY (cZ P w) P w K mg base N qual scope f cd A outer s H E) E)
theorem Oh {N:Ad}{np:Nat}{ρ:Ae}{H:Hp}{xs:An}{vs:List V}(r:Rs K mg ρ H xs vs) (h:xs.length=np):bg K mg ρ H (xs.map some++List.replicate (N.length-np) none) (L2.start N vs):=by
 have hl:=r.len
 refine ⟨by simp [L2.start,<-hl,h],λi x hx=>?_⟩
 by_cases hi:i<xs.length
 ·rw [gi (by simpa using hi)] at hx
  simp only [yM] at hx
  cases hq:xs[i]? with
  | none=>rw [hq] at hx;cases hx
  | some y =>
   rw [hq] at hx
   cases hx
   obtain ⟨v,hv,rv⟩:=r.get hq
   refine ⟨v,?_,rv⟩
   unfold L2.start
   rw [gi (by simp;omega)]
   simp [hv]
 ·rw [iU (by simpa using hi)] at hx
  rw [List.getElem?_replicate] at hx
  split at hx<;>cases hx
def sL {x qual:Str}{sm:Stmt}{f:Addr}{fd:FuncData}{N ps:Ad}{k:Nat}{g:Aj}(F:eZ K x qual sm f fd) (S:au N ps (zW sm))
  (hb:∀(aU:Value) (A:Around) (outer:List Env) (s:Shared) (H:Hp) (E:XK),bt k (A.deeper (PyProof.Rows.envOfC qual (zW sm) s.heap.objs.size f aU))->e_ (sJ P w K mg base N qual (zW sm) f aU A outer s H E) E (jY sm) g) :
  bG P w K mg base (cZ P w) (k+1) f fd ps (iF K mg (yq ps.length N.length g)):=by
 refine F.okT S (λvs H Q E h=>?_) λaU A outer s H vs Q E hr h=>⟨_,hb aU A outer s H E hr,?_⟩
 ·obtain ⟨xs,st,ρ,r,_,h⟩:=h
  obtain ⟨hl,_⟩:=Out.ifp h
  rw [<-r.len];exact hl
 ·obtain ⟨xs,st,ρ,r,rs,h⟩:=h
  obtain ⟨hl,h⟩:=Out.ifp h
  refine ⟨_,st,ρ,Oh r hl,rs,h.then λaf H1 fl aq e1 s1 h1=>?_⟩
  cases fl with
  | rt v=>exact λu ru=>Out.now (x:=v) h1 s1 u ru
  | nx e=>exact λai _=>Out.now (x:=PV.non) h1 s1 _ rfl
  | _=>exact h1.elim
def Oi {x:Str}{f:Addr}{fd:FuncData}{ps:Ad}{k:Nat}{m:Al}{sm:Stmt}{qual nm:Str}(hm:mg x=some (.ref f)) (F:eZ K nm qual sm f fd) (hb:Binds K fd ps []) (h:bG P w K mg base (cZ P w) k f fd ps (iF K mg m)):bf P w K mg base x k m:=⟨f,fd,ps,hm,F.kp,hb,h⟩
end
section
variable {X:Cx}{Er:XK}{P:Program}{w:World}{K:Frag}{mg:Ab}{base:Heap}{pos:Pos}{x:Str}{st:Stmt}
theorem zy {k:Nat}{A:Around}(hr:bt k A):A.units+200<cLine:=by have:=hr.un;omega
def xn:Aj:=λ_ _=>.stuck
def FnF (K:Frag) (mg:Ab) (x:Str) (sm:Stmt) (ps:Ad):Prop:=∃f fd,mg x=some (.ref f)/\eZ K x x sm f fd/\Binds K fd ps []
def MtF (K:Frag) (mg:Ab) (c name qual:Str) (sm:Stmt) (ps:Ad):Prop:=∃C f fd,mg c=some (.ref C)/\fq K C/\Meth K C name f/\eZ K name qual sm f fd/\Binds K fd ps []
def NwF (K:Frag) (mg:Ab) (c qual:Str) (sm:Stmt) (ps:Ad):Prop:=∃C f fd,mg c=some (.ref C)/\Mk K C f/\eZ K "__init__" qual sm f fd/\Binds K fd ps []
def FnF.ok {sm:Stmt}{N ps:Ad}{k:Nat}{g:Aj}(h:FnF K mg x sm ps) (S:au N ps (zW sm))
  (hb:∀(f:Addr) (aU:Value) (A:Around) (outer:List Env) (s:Shared) (H:Hp) (E:XK),bt k (A.deeper (PyProof.Rows.envOfC x (zW sm) s.heap.objs.size f aU))->e_ (sJ P w K mg base N x (zW sm) f aU A outer s H E) E (jY sm) g) :
  bf P w K mg base x (k+1) (yq ps.length N.length g):=by
 obtain ⟨f,fd,hm,F,b⟩:=h
 exact Oi hm F b (sL F S (hb f))
def MtF.ok {c name qual:Str}{sm:Stmt}{N ps:Ad}{k:Nat}{g:Aj}(h:MtF K mg c name qual sm ps) (S:au N ps (zW sm))
  (hb:∀(f:Addr) (aU:Value) (A:Around) (outer:List Env) (s:Shared) (H:Hp) (E:XK),bt k (A.deeper (PyProof.Rows.envOfC qual (zW sm) s.heap.objs.size f aU))->e_ (sJ P w K mg base N qual (zW sm) f aU A outer s H E) E (jY sm) g) :
  gL P w K mg base c name (k+1) (yq ps.length N.length g):=by
 obtain ⟨C,f,fd,hm,cl,mt,F,b⟩:=h
 exact ⟨C,f,fd,ps,hm,cl,mt,b,sL F S (hb f)⟩
def NwF.ok {c qual:Str}{sm:Stmt}{N ps:Ad}{k:Nat}{g:Aj}(h:NwF K mg c qual sm ps) (S:au N ps (zW sm))
  (hb:∀(f:Addr) (aU:Value) (A:Around) (outer:List Env) (s:Shared) (H:Hp) (E:XK),bt k (A.deeper (PyProof.Rows.envOfC qual (zW sm) s.heap.objs.size f aU))->e_ (sJ P w K mg base N qual (zW sm) f aU A outer s H E) E (jY sm) g) :
  xi P w K mg base c (k+1) (yq ps.length N.length g):=by
 obtain ⟨C,f,fd,hm,mk,F,b⟩:=h
 exact ⟨C,f,fd,ps,hm,mk,b,sL F S (hb f)⟩
theorem wg:bootBuiltins "len" = some (.builtin "len"):=by decide +kernel
theorem Oj:bootBuiltins "isinstance" = some (.builtin "isinstance"):=by decide +kernel
theorem D5:bootBuiltins "int" = some (.type "int"):=by decide +kernel
theorem Ol:bootBuiltins "bool" = some (.type "bool"):=by decide +kernel
theorem sN:bootBuiltins "str" = some (.type "str"):=by decide +kernel
theorem jK:bootBuiltins "tuple" = some (.type "tuple"):=by decide +kernel
theorem Om:bootBuiltins "list" = some (.type "list"):=by decide +kernel
end
def bf.mono {P:Program}{w:World}{K:Frag}{mg:Ab}{base:Heap}{x:Str}{j k:Nat}{m:Al}(h:bf P w K mg base x j m) (xo:j<=k):bf P w K mg base x k m:=by
 obtain ⟨f,fd,ps,h1,h2,h3,h4⟩:=h
 exact ⟨f,fd,ps,h1,h2,h3,h4.mono xo⟩
def gL.mono {P:Program}{w:World}{K:Frag}{mg:Ab}{base:Heap}{c x:Str}{j k:Nat}{m:Al}(h:gL P w K mg base c x j m) (xo:j<=k):gL P w K mg base c x k m:=by
 obtain ⟨C,f,fd,ps,h1,h2,h3,h4,h5⟩:=h
 exact ⟨C,f,fd,ps,h1,h2,h3,h4,h5.mono xo⟩
def km (K:Frag):Sp:=λvs H Q _=>∃(a:Addr) (ns:List Int),vs=[.ref a]/\aQ K H a (ns.map V.int)/\Only H/\ns.length<=63/\∀H',Q (.bl true) H'
theorem D6 {K:Frag}{mg:Ab}{ρ:Ae}{H:Hp}:∀ns:List Int,Rs K mg ρ H (ns.map PV.int) (ns.map V.int)
 | []=>rfl
 | n::ns=>⟨_,_,rfl,rfl,D6 ns⟩
def Oo {K:Frag}{H:Hp}{a:Addr}{vs:List V}(h:aQ K H a vs) (o:Only H):kh K H a vs:=by
 rcases h with (h|⟨ob,h⟩)|h
 ·rcases o a with z|⟨ob,xs,z⟩
  ·rw [h] at z;cases z
  ·rw [h] at z;cases z
 ·exact .inl ⟨ob,h⟩
 ·exact .inr h
def Oq {P:Program}{w:World}{K:Frag}{mg:Ab}{base:Heap}{k:Nat}{f:Addr}{fd:FuncData}{ps:Ad}{m:Al}(F:bG P w K mg base (cZ P w) k f fd ps (iF K mg m)) (h:∀ns:List Int,ns.length<=63->∃st,m [.frl (ns.map PV.int)] []=.ok (.bl true) st):bG P w K mg base (cZ P w) k f fd ps (km K) :=
 F.imp λvs H Q E ⟨a,ns,e,hs,ho,hl,q⟩=>by
  subst e
  obtain ⟨st,hm⟩:=h ns hl
  refine ⟨[.frl (ns.map PV.int)],[],[],⟨_,[],rfl,⟨a,_,rfl,Oo hs ho,D6 ns⟩,rfl⟩,⟨rfl,List.nodup_nil,λn so e=>by simp at e⟩,?_⟩
  rw [hm]
  intro ah H' _ _ v rv
  cases rv
  exact q H'
def walkM {l:PySem.W.OpenLaw}{k:Nat}{x:Str}{q:Program}{loose:Ad}{XP:(Ab)->Heap->Prop}{YP:World->Heap->Prop}{d:DefRec}{K:Params->PySem.W.Frag}(hn:l.most=some 63) (pL:d.params.defaults=[]) (hr:bt k callerA)
  (hY:∀(w:World) (h:Heap),YP w h->(K w.params).In h)
  (F:∀(w:World) (mg:Ab) (fa:Addr) (h:Heap),(K w.params).In h->h.Ns mainGlobals mg->mg d.name=some (.ref fa) ->
   ∃fd:FuncData,(∀(s:Shared) (u:Value),BindsTo s fd ⟨[u],[]⟩ [(x,u)])/\∀base:Heap,(K w.params).In base->base.Ns mainGlobals mg->bG l.prog w (K w.params) mg base (cZ l.prog w) k fa fd [x] (km (K w.params))) :
  PySem.W.WalkO q loose XP YP l.row.toRowW d [] (λf vs=>PySem.call f vs) :=
 L2.zn2 (n:=63) (k:=k) (x:=x) (CX:=λw=>cZ l.prog w) (sp:=λw=>km (K w.params)) hn (by decide) pL hr hY F (λ_ _ a ns hl ho hS=>⟨a,ns,rfl,hS,ho,hl,λ_=>rfl⟩) λw H s e s' ⟨_,_,_,_,_,_,_,_,_,_,_,_,_,_,_,z⟩=>z
section
variable {α β:Type}{env:zm}{st aq:aa}{fa fb fc fo fv:Ai}{fs:Ah}{ga gb:Ak}{g g':Aj}{op VP:Am}{o1:PV->Mo PV}{m:Al}
@[simp] def zG (a:α) (f:α->Mo β):(Res.ok a st).bind f=f a st:=(rfl)
@[simp] def VQ (f:α->Mo β):(Res.stuck:Res α).bind f=.stuck:=(rfl)
@[simp] def VR (p:Prop) [Decidable p] (a b:Res α) (f:α->Mo β):(if p then a else b).bind f=if p then a.bind f else b.bind f:=by split<;>rfl
@[simp] def Ot (i:Nat):zc i env st=(match env[i]? with|some (some x)=>.ok x st|_=>.stuck):=(rfl)
@[simp] def VS (x:PV):mC x env st=.ok x st:=(rfl)
@[simp] def Ou:ze op fa fb env st=(fa env st).bind λx aq=>(fb env aq).bind λy ay=>op x y ay:=(rfl)
@[simp] def Ov:jZ o1 fa env st=(fa env st).bind o1:=(rfl)
@[simp] def Ow:mB fa env st=(fa env st).bind gJ:=(rfl)
@[simp] def qj (b:Bool):gJ (.bl b) st=.ok b st:=(rfl)
@[simp] def D7:ki ga gb env st=(ga env st).bind λc aq=>if c=true then gb env aq else .ok false aq:=(rfl)
@[simp] def D8:jI ga gb env st=(ga env st).bind λc aq=>if c=true then .ok true aq else gb env aq:=(rfl)
@[simp] def Ox:wx ga env st=(ga env st).bind λc aq=>.ok (!c) aq:=(rfl)
@[simp] def D_:wY fa fb env st=(fa env st).bind λx aq=>(gJ x aq).bind λc ay=>if c=true then fb env ay else .ok (.bl false) ay:=(rfl)
@[simp] def Ea:mD fa fb env st=(fa env st).bind λx aq=>(gJ x aq).bind λc ay=>if c=true then .ok (.bl true) ay else fb env ay:=(rfl)
@[simp] def VT:zo env st=.ok [] st:=(rfl)
@[simp] def Oy:zd fa fs env st=(fa env st).bind λx aq=>(fs env aq).bind λxs ay=>.ok (x::xs) ay:=(rfl)
@[simp] def Oz:zC fs env st=(fs env st).bind λxs aq=>if xs.length<=lim then .ok (.tup xs) aq else .stuck:=(rfl)
@[simp] def OA:yU fs env st=(fs env st).bind λxs aq=>if xs.length<=lim then .ok (.ref aq.length) (aq++[.lst xs]) else .stuck:=(rfl)
@[simp] def OB (fl fu:zm->Mo (Option Int)):lg fa fl fu env st=(fa env st).bind λx aq=>(fl env aq).bind λl ay=>(fu env ay).bind λu aS=>oq x l u aS:=(rfl)
@[simp] def VU:d7 env st=.ok none st:=(rfl)
@[simp] def OC:cP fa env st=(fa env st).bind xf:=(rfl)
@[simp] def OD (i:Int):xf (.int i) st=.ok (some i) st:=(rfl)
@[simp] def OE:zu m fs env st=(fs env st).bind m:=(rfl)
@[simp] def VW (C:Int->Int->Bool) (f:Int->Int->Int) (i j:Int):opI C f (.int i) (.int j) st=if C i j=true then .ok (.int (f i j)) st else .stuck:=(rfl)
@[simp] def VX (f:Int->Int->Bool) (i j:Int):sC f (.int i) (.int j) st=.ok (.bl (f i j)) st:=(rfl)
@[simp] def VY (i j:Int):ya (.int i) (.int j) st=.ok (.int (i+j)) st:=(rfl)
@[simp] def OG (x y:Str):ya (.str x) (.str y) st=if x.length+y.length<=lim then .ok (.str (x++y)) st else .stuck:=(rfl)
@[simp] def VZ (x:PV):b3 (some x) st=.ok x st:=(rfl)
@[simp] def V0 (xs:An) (l u:Option Int):oq (.frl xs) l u st=.ok (.ref st.length) (st++[.lst (cX xs l u)]):=(rfl)
@[simp] def OH (k:Bool):ou [.bl k] st=.ok (.int (if k then 1 else 0)) st:=(rfl)
@[simp] def V1 (x y:PV):ye x y st=if plain x=true/\plain y=true/\dep x<=150 then .ok (.bl (a_ x y)) st else .stuck:=(rfl)
@[simp] def OI:yd env st=.ok (.nx env) st:=(rfl)
@[simp] def Eb:zw g g' env st=(g env st).bind (gd g'):=(rfl)
@[simp] def OJ:gd g (.nx env) st=g env st:=(rfl)
@[simp] def OK (x:PV):gd g (.rt x) st=.ok (.rt x) st:=(rfl)
@[simp] def OL (i:Nat):zH i fa env st=(fa env st).bind λx aq=>.ok (.nx (env.set i (some x))) aq:=(rfl)
@[simp] def OM:yK fa env st=(fa env st).bind λ_ aq=>.ok (.nx env) aq:=(rfl)
@[simp] def OO:yb fa env st=(fa env st).bind λx aq=>.ok (.rt x) aq:=(rfl)
@[simp] def Ec:zY ga g g' env st=(ga env st).bind λc aq=>if c=true then g env aq else g' env aq:=(rfl)
@[simp] def OQ (i j:Nat) (x y:PV):g2 i j (.tup [x,y]) env=some ((env.set i (some x)).set j (some y)):=(rfl)
@[simp] def OR (x:PV):endOf (.rt x) st=.ok x st:=(rfl)
@[simp] def jz:yG fa env st=(fa env st).bind gM:=(rfl)
@[simp] def oy (n:Nat):gM (.ref n) st=yi st n λ_=>.ok (.rf n) st:=(rfl)
@[simp] def wN (src:zm->Mo Sq) (gt:PV->zm->Option zm):yV src gt g env st=(src env st).bind λq aq=>qi gt g q env aq:=(rfl)
@[simp] def OS (gt:PV->zm->Option zm) (xs:An):qi gt g (.im xs) env st=forL gt g xs env st:=(rfl)
@[simp] def V2 (gt:PV->zm->Option zm):forL gt g [] env st=.ok (.nx env) st:=(rfl)
@[simp] def V3 (i:Int):Mi.plain (.int i)=true:=(rfl)
@[simp] def V4 (x:Str):Mi.plain (.str x)=true:=(rfl)
@[simp] def V6 (xs:An):Mi.plain (.tup xs)=bo xs:=(rfl)
@[simp] def V7 (x:PV) (xs:An):bo (x::xs)=(Mi.plain x&&bo xs):=(rfl)
@[simp] def V8:cg []=0:=(rfl)
@[simp] def V9 (x:PV) (xs:An):cg (x::xs)=max (dep x) (cg xs):=(rfl)
@[simp] def mI (a:α):cS (Res.ok a st)=.ok a st:=(rfl)
def yr {n:Nat}{xs:An}(h:st[n]?=some (.lst xs)) (k:List PV->Res α):yi st n k=k xs:=by unfold yi;rw [h]
def xq {n:Nat}{c:Str}{ks:Ad}{xs:An}(h:st[n]?=some (.ins c ks xs)) (k:Str->List Str->List PV->Res α):j7 st n k=k c ks xs:=by unfold j7;rw [h]
@[simp] def V_ (xs:An) (k:List PV->Res α):yi (st++[.lst xs]) st.length k=k xs:=yr (by simp) k
@[simp] def Ed (f:Str) (i x:Str->Bool) (n:Nat):cQ f i x (.ref n) st=j7 st n λc ks xs=>if i c=true then b3 ((ks.zip xs).lookup f) st else .stuck:=(rfl)
@[simp] def OT (f:Str) (i:Str->Bool):Mi.sFld f i fo fv env st=(fv env st).bind λx aq=>(fo env aq).bind λo ay=>(putAt f i x o ay).bind λ_ aS=>.ok (.nx env) aS:=(rfl)
@[simp] def OU:yF op fo fv env st=(fo env st).bind λo aq=>(lx o aq).bind λo aq=>(fv env aq).bind λy ay=>op o y ay:=(rfl)
@[simp] def OV (n:Nat):lx (.ref n) st=yi st n λ_=>.ok (.ref n) st:=(rfl)
@[simp] def OW (a b:String):(Str.ofString a=Str.ofString b)↔a=b:=by
 constructor
 ·intro h
  rw [Str.ofString_eq_byList] at h
  have h1:(a.toList.map Char.toNat)=(b.toList.map Char.toNat):=by
   have:=congrArg (λz=>z.cps.toList) h
   simpa [Str.ofStringByList] using this
  apply String.ext_iff.mpr
  exact (List.map_inj_right (λc d e=>Char.toNat_inj.mp e)).mp h1
 ·intro h;rw [h]
def qk (n:Nat):bZ ga g (n+1) env st=(ga env st).bind λc aq=>if c=true then (g env aq).bind λfl ay=>match fl with
   | .nx e=>bZ ga g n e ay
   | .ct e=>bZ ga g n e ay
   | .bk e=>.ok (.nx e) ay
   | .rt v=>.ok (.rt v) ay
  else .ok (.nx env) aq:=rfl
@[simp] def OX:lim=1000000:=(rfl)
end
section
variable {K:Frag}{mg:Ab}{h:Heap}{x:Str}{f C:Addr}{oc:Value}{od an:Option Addr}{fK:Array (Option Value)}{kV doc pm aU ct:Value}{sm:Stmt}{ps:Ad}
def zcG (X:K.In h) (G:h.Ns mainGlobals mg) (a:nsIn K mainGlobals x=some (some (.ref f))) (l:K.lookup f=some ⟨oc,od,.func (fnOf x x (gA sm) (jY sm) (zW sm) .none kV doc pm an aU ct),fK⟩) (c:codeIn K aU x=true) (k:keepIn K (.ref f)=true)
  (b:∀(kV doc pm:Value) (an:Option Addr) (aU ct:Value) (us:Af),us.length=ps.length->bindArgs (fnOf x x (gA sm) (jY sm) (zW sm) .none kV doc pm an aU ct) ⟨us,[]⟩=pure (ps.zip us)):FnF K mg x sm ps :=
 ⟨f,_,mg_of X G a,nZ l c k,(nZ l c k).binds b⟩
def zeX {c name qual:Str} (X:K.In h) (G:h.Ns mainGlobals mg) (aC:nsIn K mainGlobals c=some (some (.ref C))) (pg:plainGet K C Str.empty=true) (hd:hasDictIn K C=true) (po:plainOver K C=true) (sa:findIn K (.ref C) "__setattr__" = some (some (.builtin "object.__setattr__")))
  (a:findIn K (.ref C) name=some (some (.ref f))) (i:isFn K (.ref f)=true) (l:K.lookup f=some ⟨oc,od,.func (fnOf name qual (gA sm) (jY sm) (zW sm) .none kV doc pm an aU ct),fK⟩) (cd:codeIn K aU qual=true) (k:keepIn K (.ref f)=true)
  (b:∀(kV doc pm:Value) (an:Option Addr) (aU ct:Value) (us:Af),us.length=ps.length->bindArgs (fnOf name qual (gA sm) (jY sm) (zW sm) .none kV doc pm an aU ct) ⟨us,[]⟩=pure (ps.zip us)):MtF K mg c name qual sm ps :=
 ⟨C,f,_,mg_of X G aC,⟨pg,hd,po,sa⟩,⟨a,i,k⟩,nZ l cd k,(nZ l cd k).binds b⟩
def zp8 {c qual:Str}(X:K.In h) (G:h.Ns mainGlobals mg) (aC:nsIn K mainGlobals c=some (some (.ref C))) (mk:makesIn K C=true) (kc:keepIn K (.ref C)=true)
  (a:findIn K (.ref C) "__init__" = some (some (.ref f))) (i:isFn K (.ref f)=true) (l:K.lookup f=some ⟨oc,od,.func (fnOf "__init__" qual (gA sm) (jY sm) (zW sm) .none kV doc pm an aU ct),fK⟩) (cd:codeIn K aU qual=true) (k:keepIn K (.ref f)=true)
  (b:∀(kV doc pm:Value) (an:Option Addr) (aU ct:Value) (us:Af),us.length=ps.length->bindArgs (fnOf "__init__" qual (gA sm) (jY sm) (zW sm) .none kV doc pm an aU ct) ⟨us,[]⟩=pure (ps.zip us)):NwF K mg c qual sm ps :=
 ⟨C,f,_,mg_of X G aC,⟨mk,a,i,kc⟩,nZ l cd k,(nZ l cd k).binds b⟩
def zib {c fld:Str} (X:K.In h) (G:h.Ns mainGlobals mg) (aC:nsIn K mainGlobals c=some (some (.ref C))) (pg:plainGet K C Str.empty=true) (hd:hasDictIn K C=true) (po:plainOver K C=true) (sa:findIn K (.ref C) "__setattr__" = some (some (.builtin "object.__setattr__"))) (na:findIn K (.ref C) fld=some none) :
  ∃C,mg c=some (.ref C)/\fq K C/\dn K C fld:=⟨C,mg_of X G aC,⟨pg,hd,po,sa⟩,na⟩
def all_cons {α:Type}{P:α->Prop}{a:α}{l:List α}(h:P a) (t:∀p∈l,P p):∀p∈a::l,P p:=λp hp=>by
 rcases yC.mp hp with rfl|hp
 ·exact h
 ·exact t p hp
end
def zp9 {P:Program}{w:World}{K:Frag}{mg:Ab}{x y:Str}{sm:Stmt}{fa:Addr}{k:Nat}{m:Al}(h:FnF K mg x sm [y]) (hmg:mg x=some (.ref fa))
  (hb:∀(kV doc pm:Value) (an:Option Addr) (aU ct:Value) (u:Value),bindArgs (fnOf x x (gA sm) (jY sm) (zW sm) .none kV doc pm an aU ct) ⟨[u],[]⟩=pure [(y,u)])
  (hok:∀(f:Addr) (fd:FuncData),eZ K x x sm f fd->∀base:Heap,bG P w K mg base (cZ P w) k f fd [y] (iF K mg m)) (hp:∀ns:List Int,ns.length<=63->∃st,m [.frl (ns.map PV.int)] []=.ok (.bl true) st) :
  ∃fd:FuncData,(∀(s:Shared) (u:Value),BindsTo s fd ⟨[u],[]⟩ [(y,u)])/\∀base:Heap,K.In base->base.Ns mainGlobals mg->bG P w K mg base (cZ P w) k fa fd [y] (km K):=by
 obtain ⟨f,fd,hm,F,_⟩:=h
 rw [hmg] at hm
 cases hm
 refine ⟨fd,λs u=>?_,λbase _ _=>Oq (hok fa fd F base) hp⟩
 obtain ⟨oc,od,kV,doc,pm,an,aU,ct,fK,rfl,_⟩:=F.ex
 exact .of_eq (hb kV doc pm an aU ct u)
def zqa {K:Frag}{mg:Ab}{h:Heap}{x:Str}(X:K.In h) (G:h.Ns mainGlobals mg) (a:nsIn K mainGlobals x=some none):mg x=none:=mg_none_of X G a
section
variable {X:Cx}{Er:XK}{K:Frag}{mg:Ab}{a b c e o:Expr}{es:List Expr}{pos p apos pos':Pos}{fa fb fc fo:Ai}{fs:Ah}
abbrev kz (ks:Ad) (vs:List V):List (Key×V):=(ks.map Sum.inr).zip vs
theorem xr {z:Str}:∀{ks:Ad}{vs:List V},dj (kz ks vs) (Sum.inr z)=(ks.zip vs).lookup z
 | [],_=>by simp [kz,dj]
 | k::ks,[]=>by simp [kz,dj]
 | k::ks,v::vs=>by
  have ih:=xr (z:=z) (ks:=ks) (vs:=vs)
  by_cases h:k=z
  ·subst h
   rw [show kz (k::ks) (v::vs)=(Sum.inr k,v)::kz ks vs from rfl,rX rfl]
   simp [wW]
  ·rw [show kz (k::ks) (v::vs)=(Sum.inr k,v)::kz ks vs from rfl,rY (by simpa using h),ih]
   have:(z==k)=false:=by simpa using λq=>h q.symm
   simp [wW,this]
theorem Ee {z:Str}:∀{ks:Ad}{vs:List V},ks.length=vs.length->((kz ks vs).any λkv=>decide (kv.1=Sum.inr z))=ks.contains z
 | [],_,_=>by simp [kz]
 | k::ks,[],h=>by simp at h
 | k::ks,v::vs,h=>by
  have ih:=Ee (z:=z) (ks:=ks) (vs:=vs) (by simpa using h)
  rw [show kz (k::ks) (v::vs)=(Sum.inr k,v)::kz ks vs from rfl,List.any_cons,ih,List.contains_cons]
  congr 1
  by_cases hz:k=z
  ·subst hz;simp
  ·have:(z==k)=false:=by simpa using λq=>hz q.symm
   simp [hz,this]
def repl {α:Type}(z:Str) (x:α):List Str->List α->List α
 | k::ks,y::ys=>(if k=z then x else y)::repl z x ks ys
 | _,ys=>ys
def wE (z:Str) (x:PV) (ks:Ad) (xs:An):List Str×List PV:=if ks.contains z=true then (ks,repl z x ks xs) else (ks++[z],xs++[x])
theorem Ef {z:Str}{v:V}:∀{ks:Ad}{vs:List V},(kz ks vs).map (λkv=>if kv.1=Sum.inr z then (kv.1,v) else kv)=kz ks (repl z v ks vs)
 | [],_=>by simp [kz]
 | k::ks,[]=>by simp [kz,repl]
 | k::ks,w::vs=>by
  rw [show kz (k::ks) (w::vs)=(Sum.inr k,w)::kz ks vs from rfl,yu,Ef,show repl z v (k::ks) (w::vs)=(if k=z then v else w)::repl z v ks vs from rfl,show ∀u us,kz (k::ks) (u::us)=(Sum.inr k,u)::kz ks us from λ_ _=>rfl]
  by_cases h:k=z
  ·subst h;simp
  ·rw [zP (by simpa using h),zP h]
theorem Eg {ρ:Ae}{H:Hp}{z:Str}{x:PV}{v:V}(r:R K mg ρ H x v):∀{ks:Ad}{xs:An}{vs:List V},Rs K mg ρ H xs vs->Rs K mg ρ H (repl z x ks xs) (repl z v ks vs)
 | [],xs,vs,h=>by cases xs<;>cases vs<;>exact h
 | k::ks,[],vs,h=>by cases h;exact rfl
 | k::ks,y::ys,vs,h=>by
  obtain ⟨w,ws,rfl,h1,h2⟩:=h
  refine ⟨_,_,rfl,?_,Eg r h2⟩
  split
  ·exact r
  ·exact h1
theorem Eh {α:Type}{z:Str}{x:α}:∀{ks:Ad}{xs:List α},(repl z x ks xs).length=xs.length
 | [],xs=>by cases xs<;>rfl
 | k::ks,[]=>rfl
 | k::ks,y::ys=>by simp [repl,Eh (ks:=ks)]
def xt {ρ:Ae}{H:Hp}{z:Str}{x:PV}{v:V}(r:R K mg ρ H x v) {ks:Ad}{xs:An}{vs:List V}(hl:ks.length=vs.length) (h:Rs K mg ρ H xs vs):∃ws,L2.putK (kz ks vs) (Sum.inr z) v=kz (wE z x ks xs).1 ws/\Rs K mg ρ H (wE z x ks xs).2 ws/\(wE z x ks xs).1.length=ws.length:=by
 unfold L2.putK wE
 rw [Ee hl]
 by_cases hc:ks.contains z=true
 ·rw [zF hc,zF hc]
  exact ⟨repl z v ks vs,Ef,Eg r h,by rw [Eh];exact hl⟩
 ·rw [zP hc,zP hc]
  refine ⟨vs++[v],?_,h.append ⟨v,[],rfl,r,rfl⟩,by simp [hl]⟩
  show _=(List.map Sum.inr (ks++[z])).zip (vs++[v])
  rw [ju,List.zip_append (by simpa using hl)]
  rfl
def qm:Ai:=λ_ st=>.ok (.ref st.length) (st++[.dic [] []])
def ze0:ME X Er (.Dict [] [] pos) qm:=PE.weak Mv λU H Q ⟨env,st,ρ,re,rs,h⟩=>λq hq =>
 h (ρ++[q]) _ (Ext.push hq) (rs.push hq ⟨[],jf,rfl,rfl⟩) _ ⟨q,rfl,by rw [<-rs.len];simp⟩
def OY:Am
 | .ref n,.str z,st=>jS st n λks xs=>b3 ((ks.zip xs).lookup z) st
 | _,_,_=>.stuck
def zv:Am
 | .ref n,.str z,st=>OY (.ref n) (.str z) st
 | x,y,st=>v8 x y st
def OZ:R2:=λx y H Q=>∃a v,x=.ref a/\dS H a y (some v)/\Q v H
def O0 (hu:X.A.units+1<cLine):fL X OZ:=by
 intro value slice pins s U H x y v u Q I rx ry h hs
 obtain ⟨a,w,rfl,g,q⟩:=h
 obtain rfl:v=Value.ref a:=rx
 exact PyProof.Rows.tail_any (Mr I g) PySem.F.slot_dict_getitem.lookup (Mm hu I g ry λw' s' I' dy=>⟨w,H,I',dy,q⟩) hs
def R.refD {ρ:Ae}{H:Hp}{st:aa}{n:Nat}{ks:Ad}{xs:An}{v:V}(s:aX K mg ρ H st) (r:R K mg ρ H (.ref n) v) (h:st[n]?=some (.dic ks xs)):∃a vs,v=.ref a/\ρ[n]?=some a/\H a=some (.dK (kz ks vs))/\Rs K mg ρ H xs vs/\ks.length=vs.length:=by
 obtain ⟨a,rfl,ha⟩:=r
 obtain ⟨vs,h1,h2,h3⟩:=s.addr h ha
 exact ⟨a,vs,rfl,ha,h1,h2,h3⟩
def Ei {H:Hp}{a:Addr}{ks:Ad}{vs:List V}{z:Str}(h:H a=some (.dK (kz ks vs))):dS H a (.str z) ((ks.zip vs).lookup z):=by
 have g:=dS.k (k:=Sum.inr z) h
 rw [xr] at g
 exact g
theorem zK (hu:X.A.units+200<cLine):k8 X zv:=by
 obtain ⟨r,h1,h2⟩:=Nz (X:=X)
 refine ⟨_,h1.or (O0 (by omega)),fun ρ H st x y v w Q E s rx ry h=>?_⟩
 by_cases hx:∃n z,x=.ref n/\y=.str z
 ·obtain ⟨n,z,rfl,rfl⟩:=hx
  obtain ⟨ks,xs,e,h⟩:=Nl (show Out X.K X.mg ρ H (jS st n λks xs=>b3 ((ks.zip xs).lookup z) st) (gV X.K X.mg Q) E from h)
  obtain ⟨q,hq,h⟩:=mE h
  obtain ⟨a,vs,rfl,_,k1,k2,_⟩:=R.refD s rx e
  cases ry
  obtain ⟨v,hv,rv⟩:=ow k2 hq
  refine .inr ⟨a,v,rfl,?_,h.now s _ rv⟩
  have g:=Ei (z:=z) k1
  rw [hv] at g
  exact g
 ·refine .inl (h2 ρ H st x y v w Q E s rx ry ?_)
  have:zv x y st=v8 x y st:=by
   unfold zv
   split
   ·rename_i n z;exact absurd ⟨n,z,rfl,rfl⟩ hx
   ·rfl
  rw [this] at h
  exact h
def wO (z x:PV):PV->Mo Unit
 | .ref n,st=>match z with
  | .str z=>jS st n λks xs=>if ks.length<lim then .ok () (st.set n (.dic (wE z x ks xs).1 (wE z x ks xs).2)) else .stuck
  | _=>.stuck
 | _,_=>.stuck
def iH (fo fi fv:Ai):Aj:=λenv st=>(fv env st).bind λx aq=>(fo env aq).bind λo ay=>(fi env ay).bind λz aS=>(wO z x o aS).bind λ_ ff=>.ok (.nx env) ff
theorem ze1 {i value:Expr}{fi fv:Ai}(hu:X.A.units+200<cLine) (ho:ME X Er o fo) (hi:ME X Er i fi) (hv:ME X Er value fv) (hs:swapsWith value (some (.Subscript o i pos')) pos.line X.env=pure false:=by rfl):MS X Er (.Assign [.Subscript o i pos'] value pos) (iH fo fi fv) :=
 PS.weak (Mt (by omega) ho hi hv hs) λD U H ⟨env,st,ρ,re,rs,h⟩=>⟨env,st,ρ,re,rs,h.then λaf H1 x aq e1 s1 h1 v rv=>⟨env,aq,af,re.ext e1,s1,h1.then λap H2 y ay e2 s2 h2 w rw=>⟨env,ay,ap,(re.ext e1).ext e2,s2,h2.then λaj H3 zz aS e3 s3 h3 u ru=>by
  cases y with
  | ref n =>
   cases zz with
   | str z =>
    cases hn:aS[n]? with
    | none=>simp only [wO,jS,hn] at h3;exact h3.elim
    | some so =>
     cases so with
     | lst _=>simp only [wO,jS,hn] at h3;exact h3.elim
     | ins _ _ _=>simp only [wO,jS,hn] at h3;exact h3.elim
     | fdi _ _=>simp only [wO,jS,hn] at h3;exact h3.elim
     | dit _ _=>simp only [wO,jS,hn] at h3;exact h3.elim
     | dic ks xs =>
      simp only [wO,jS,hn] at h3
      by_cases hc:ks.length<lim
      ·rw [zF hc] at h3
       obtain ⟨a,vs,e4,ha,k1,k2,k3⟩:=R.refD s3 (R.ext e3 _ rw) hn
       subst e4
       cases ru
       obtain ⟨ws,q1,q2,q3⟩:=xt (z:=z) (R.ext e3 x (R.ext e2 x rv)) k3 k2
       have hlen:(kz ks vs).length<sizeLine:=by
        have:(kz ks vs).length=ks.length:=by simp [kz,k3]
        rw [this,sizeLine_eq]
        have:ks.length<1000000:=hc
        omega
       have g:=eP.k (k:=Sum.inr z) (v:=v) k1 hlen
       have ew:Ext aj H3 aj (upd H3 a (.dK (L2.putK (kz ks vs) (Sum.inr z) v))):=Ext.write k1 rfl
       refine ⟨a,_,rfl,g,h3 aj _ ew (s3.write ha ew ⟨ws,by rw [jf,q1],Rs.ext ew _ q2,q3⟩) U ((((re.ext e1).ext e2).ext e3).ext ew)⟩
      ·rw [zP hc] at h3;exact h3.elim
   | _=>exact h3.elim
  | _=>exact h3.elim⟩⟩⟩
end
open Classical in
noncomputable def dF (K:Frag) (mg:Ab) (ρ:Ae) (H:Hp) (ys:An) (x:PV) (u:Value):Bool:=decide (∃y v,y∈ys/\R K mg ρ H y v/\RelV v u/\a_ y x=true)
section
variable {X:Cx}{Er:XK}{K:Frag}{mg:Ab}{ρ:Ae}{pins:Ac}{U:L2.St}{H:Hp}{s:Shared}
def okIn (x:PV) (ys:An):Prop:=Mi.plain x=true/\bo ys=true/\cg ys<=150
instance (x:PV) (ys:An):Decidable (okIn x ys):=by unfold okIn;infer_instance
theorem Rs.mem:∀{xs:An}{vs:List V}{us:Af}{u:Value},Rs K mg ρ H xs vs->Vals vs us->u∈us->∃y v,y∈xs/\R K mg ρ H y v/\RelV v u
 | [],_,_,_,h,hv,hu=>by cases h;cases hv;cases hu
 | x::xs,_,_,u,h,hv,hu=>by
  obtain ⟨v,r,rfl,h1,h2⟩:=h
  cases hv with
  | cons r1 r2 =>
   rcases yC.mp hu with rfl|hu
   ·exact ⟨x,v,by simp,h1,r1⟩
   ·obtain ⟨y,w,q1,q2,q3⟩:=Rs.mem h2 r2 hu
    exact ⟨y,w,by simp [q1],q2,q3⟩
theorem Rs.mem':∀{xs:An}{vs:List V}{us:Af}{y:PV},Rs K mg ρ H xs vs->Vals vs us->y∈xs->∃u v,u∈us/\R K mg ρ H y v/\RelV v u
 | [],_,_,_,_,_,hy=>by cases hy
 | x::xs,_,_,y,h,hv,hy=>by
  obtain ⟨v,r,rfl,h1,h2⟩:=h
  cases hv with
  | cons r1 r2 =>
   rcases yC.mp hy with rfl|hy
   ·exact ⟨_,v,by simp,h1,r1⟩
   ·obtain ⟨u,w,q1,q2,q3⟩:=Rs.mem' h2 r2 hy
    exact ⟨u,w,by simp [q1],q2,q3⟩
def O1 {ys:An}{y:PV}(h:bo ys=true) (hy:y∈ys):Mi.plain y=true:=by
 obtain ⟨i,hi⟩:=List.getElem?_of_mem hy
 exact sD h hi
def O2 {ys:An}{y:PV}(hy:y∈ys):dep y<=cg ys:=by
 obtain ⟨i,hi⟩:=List.getElem?_of_mem hy
 exact v9 hi
open Classical in
theorem sO (I:Inv X pins U H s) {A:Around}(hu:A.units+200<cLine) {ys:An}{vs:List V}{us:Af}{x:PV}{w:V}{v:Value}(ok:okIn x ys) (ry:Rs X.K mg ρ H ys vs) (rv:Vals vs us) (rx:R X.K mg ρ H x w) (rw:RelV w v) :
  (∀u∈us,SeqAt.EqAt A.in1 s u v (dF X.K mg ρ H ys x u))/\us.any (dF X.K mg ρ H ys x)=ys.any λy=>a_ y x:=by
 obtain ⟨px,py,hd⟩:=ok
 have one:∀y v' u,y∈ys->R X.K mg ρ H y v'->RelV v' u->SeqAt.EqAt A.in1 s u v (a_ y x):=λy v' u hy r1 r2 =>
  (sE I 150 y x A.in1 (ja (O2 hy) hd) (O1 py hy) px r1 rx r2 rw (by rw [qd];omega)).1
 refine ⟨λu Ej=>?_,?_⟩
 ·obtain ⟨y,v',q1,q2,q3⟩:=Rs.mem ry rv Ej
  by_cases h:∃y v,y∈ys/\R X.K mg ρ H y v/\RelV v u/\a_ y x=true
  ·have e:dF X.K mg ρ H ys x u=true:=by simpa [dF] using h
   obtain ⟨y2,v2,z1,z2,z3,z4⟩:=h
   rw [e,<-z4]
   exact one y2 v2 u z1 z2 z3
  ·have e:dF X.K mg ρ H ys x u=false:=by unfold dF;exact jU h
   rw [e]
   have:a_ y x=false:=by
    cases hq:a_ y x with
    | false=>rfl
    | true=>exact absurd ⟨y,v',q1,q2,q3,hq⟩ h
   rw [<-this]
   exact one y v' u q1 q2 q3
 ·rw [Bool.eq_iff_iff]
  simp only [List.any_eq_true]
  constructor
  ·rintro ⟨u,Ej,he⟩
   have h:∃y v,y∈ys/\R X.K mg ρ H y v/\RelV v u/\a_ y x=true:=by unfold dF at he;exact of_decide_eq_true he
   obtain ⟨y,v',z1,_,_,z4⟩:=h
   exact ⟨y,z1,z4⟩
  ·rintro ⟨y,hy,he⟩
   obtain ⟨u,v',q1,q2,q3⟩:=Rs.mem' ry rv hy
   exact ⟨u,q1,by unfold dF;exact wc ⟨y,v',hy,q2,q3,he⟩⟩
def yH (neg:Bool):Am
 | x,.tup ys,st=>if okIn x ys then .ok (.bl (neg.xor (ys.any λy=>a_ y x))) st else .stuck
 | x,.frl ys,st=>if okIn x ys then .ok (.bl (neg.xor (ys.any λy=>a_ y x))) st else .stuck
 | x,.ref n,st=>match st[n]?,x with
  | some (.lst ys),x=>if okIn x ys then .ok (.bl (neg.xor (ys.any λy=>a_ y x))) st else .stuck
  | some (.dic ks xs),.str z=>.ok (.bl (neg.xor ((ks.zip xs).lookup z).isSome)) st
  | _,_=>.stuck
 | .str ⟨⟨[c]⟩⟩,.str z,st=>.ok (.bl (neg.xor (decide (c∈z.cps.toList)))) st
 | _,_,_=>.stuck
def xv (K:Frag) (mg:Ab) (neg:Bool):R2:=λv w H Q =>
 (∃ρ x ys vs p,okIn x ys/\w=.ref p/\(aQ K H p vs\/aW K H p vs)/\Rs K mg ρ H ys vs/\R K mg ρ H x v/\Q (.bl (neg.xor (ys.any λy=>a_ y x))) H) \/
 (∃p o,w=.ref p/\dS H p v o/\Q (.bl (neg.xor o.isSome)) H)\/∃(c:Nat) (z:Str),v=.str ⟨#[c]⟩/\w=.str z/\Q (.bl (neg.xor (decide (c∈z.cps.toList)))) H
def O3 (hu:X.A.units+200<cLine):bh X (compareOp .In) (xv X.K X.mg false):=by
 intro pins s U H x y v u Q I rx ry h
 rcases h with ⟨ρ,a,ys,vs,p,ok,rfl,hq,qo,ra,q⟩|⟨p,o,rfl,g,q⟩|⟨c,z,rfl,rfl,q⟩
 ·obtain rfl:u=Value.ref p:=ry
  rcases hq with hq|hq
  ·obtain ⟨its,r,pl,_⟩:=I.list hq
   obtain ⟨f1,f2⟩:=sO I hu ok qo r ra rx
   refine SeqAt.in_listAt (dF X.K X.mg ρ H ys a) pl.isList (λw hw=>f1 w (by simpa using hw)) ⟨.bl _,H,I,rfl,?_⟩
   rw [show its.toArray.any (dF X.K X.mg ρ H ys a)=its.any (dF X.K X.mg ρ H ys a) by simp,f2]
   simpa using q
  ·obtain ⟨its,r,pl,_⟩:=I.tuple hq
   obtain ⟨f1,f2⟩:=sO I hu ok qo r ra rx
   refine SeqAt.in_tupleAt (dF X.K X.mg ρ H ys a) pl (λw hw=>f1 w (by simpa using hw)) ⟨.bl _,H,I,rfl,?_⟩
   rw [show its.toArray.any (dF X.K X.mg ρ H ys a)=its.any (dF X.K X.mg ρ H ys a) by simp,f2]
   simpa using q
 ·obtain rfl:u=Value.ref p:=ry
  exact Mn (by omega) I g rx λs' I'=>⟨.bl o.isSome,H,I',rfl,by simpa using q⟩
 ·exact Mj pins s U H _ _ v u Q I rx ry ⟨c,z,rfl,rfl,by simpa using q⟩
def O4 (hu:X.A.units+200<cLine):bh X (compareOp .NotIn) (xv X.K X.mg true):=by
 intro pins s U H x y v u Q I rx ry h
 rcases h with ⟨ρ,a,ys,vs,p,ok,rfl,hq,qo,ra,q⟩|⟨p,o,rfl,g,q⟩|⟨c,z,rfl,rfl,q⟩
 ·obtain rfl:u=Value.ref p:=ry
  rcases hq with hq|hq
  ·obtain ⟨its,r,pl,_⟩:=I.list hq
   obtain ⟨f1,f2⟩:=sO I hu ok qo r ra rx
   refine SeqAt.notIn_listAt (dF X.K X.mg ρ H ys a) pl.isList (λw hw=>f1 w (by simpa using hw)) ⟨.bl _,H,I,rfl,?_⟩
   rw [show its.toArray.any (dF X.K X.mg ρ H ys a)=its.any (dF X.K X.mg ρ H ys a) by simp,f2]
   simpa using q
  ·obtain ⟨its,r,pl,_⟩:=I.tuple hq
   obtain ⟨f1,f2⟩:=sO I hu ok qo r ra rx
   refine SeqAt.notIn_tupleAt (dF X.K X.mg ρ H ys a) pl (λw hw=>f1 w (by simpa using hw)) ⟨.bl _,H,I,rfl,?_⟩
   rw [show its.toArray.any (dF X.K X.mg ρ H ys a)=its.any (dF X.K X.mg ρ H ys a) by simp,f2]
   simpa using q
 ·obtain rfl:u=Value.ref p:=ry
  exact Mp (by omega) I g rx λs' I'=>⟨.bl (!o.isSome),H,I',rfl,by simpa using q⟩
 ·refine L2.znM pins s U H _ _ v u Q I rx ry ⟨_,_,rfl,rfl,?_⟩
  rw [StrLaws.found_one]
  simpa using q
def Ek {neg:Bool}:fO K mg (xv K mg neg) (yH neg):=by
 intro ρ H st x y v w Q E s rx ry h
 cases y with
 | tup ys =>
  obtain ⟨p,vs,rfl,k1,k2⟩:=ry
  obtain ⟨ok,h⟩:=Out.ifp (show Out K mg ρ H (if okIn x ys then .ok (.bl (neg.xor (ys.any λy=>a_ y x))) st else .stuck) (gV K mg Q) E from by cases x<;>exact h)
  exact .inl ⟨ρ,x,ys,vs,p,ok,rfl,.inr k1,k2,rx,h.now s _ rfl⟩
 | frl ys =>
  obtain ⟨p,vs,rfl,k1,k2⟩:=ry
  obtain ⟨ok,h⟩:=Out.ifp (show Out K mg ρ H (if okIn x ys then .ok (.bl (neg.xor (ys.any λy=>a_ y x))) st else .stuck) (gV K mg Q) E from by cases x<;>exact h)
  exact .inl ⟨ρ,x,ys,vs,p,ok,rfl,.inl k1.sq,k2,rx,h.now s _ rfl⟩
 | ref n =>
  cases hn:st[n]? with
  | none=>exfalso;cases x<;>(simp only [yH,hn] at h;exact h)
  | some so =>
   cases so with
   | lst ys =>
    obtain ⟨p,vs,rfl,_,k1,k2⟩:=R.refL s ry hn
    obtain ⟨ok,h⟩:=Out.ifp (show Out K mg ρ H (if okIn x ys then .ok (.bl (neg.xor (ys.any λy=>a_ y x))) st else .stuck) (gV K mg Q) E from by cases x<;>(simp only [yH,hn] at h;exact h))
    exact .inl ⟨ρ,x,ys,vs,p,ok,rfl,.inl (aQ.of k1),k2,rx,h.now s _ rfl⟩
   | dic ks xs =>
    obtain ⟨p,vs,rfl,_,k1,k2,k3⟩:=R.refD s ry hn
    cases x with
    | str z =>
     simp only [yH,hn] at h
     cases rx
     refine .inr (.inl ⟨p,_,rfl,Ei k1,?_⟩)
     have e:((ks.zip vs).lookup z).isSome=((ks.zip xs).lookup z).isSome:=by
      cases hq:(ks.zip xs).lookup z with
      | some q=>obtain ⟨v,hv,_⟩:=ow k2 hq;rw [hv];rfl
      | none =>
       have:z∉ks:=by
        intro hz
        obtain ⟨i,hi⟩:=List.getElem?_of_mem hz
        have hl:i<xs.length:=by rw [k2.len,<-k3];exact (yt.mp hi).1
        have:=List.lookup_eq_none_iff.mp hq (z,xs[i]) (List.mem_iff_getElem?.mpr ⟨i,by simp [List.getElem?_zip_eq_some,hi,hl]⟩)
        simp at this
       rw [xj this];rfl
     rw [e]
     exact h.now s _ rfl
    | _=>simp only [yH,hn] at h;exact h.elim
   | ins c ks xs=>exfalso;cases x<;>(simp only [yH,hn] at h;exact h)
   | fdi ks xs=>exfalso;cases x<;>(simp only [yH,hn] at h;exact h)
   | dit ks xs=>exfalso;cases x<;>(simp only [yH,hn] at h;exact h)
 | str z =>
  cases x with
  | str q =>
   obtain ⟨⟨l⟩⟩:=q
   match l,rx,h with
   | [c],rx,h=>cases rx;cases ry;exact .inr (.inr ⟨c,z,rfl,rfl,Out.now (x:=PV.bl _) h s _ rfl⟩)
   | [],rx,h=>exact h.elim
   | _::_::_,rx,h=>exact h.elim
  | _=>exact h.elim
 | non=>exfalso;cases x<;>exact h
 | bl _=>exfalso;cases x<;>exact h
 | int _=>exfalso;cases x<;>exact h
 | ty _=>exfalso;cases x<;>exact h
 | fn _=>exfalso;cases x<;>exact h
 | kd _ _=>exfalso;cases x<;>exact h
 | exo _ _ _=>exfalso;cases x<;>exact h
def zby (hu:X.A.units+200<cLine):b_ X .In (yH false):=⟨_,O3 hu,Ek⟩
def ze3 (hu:X.A.units+200<cLine):b_ X .NotIn (yH true):=⟨_,O4 hu,Ek⟩
abbrev xw:=opI c0 λi j=>Builtin.bitAnd i j
abbrev qp:=opI c0 λi j=>Builtin.bitOr i j
abbrev kn:=opI dC λi j=>i*2 ^ j.toNat
abbrev qq:Int->Int->Bool:=λ_ j=>decide (0<=j)
abbrev xx:=opI qq λi j=>i/2 ^ j.toNat
def zqi:cO X .BitAnd xw:=⟨_,vY Km,kj λ_ _ _=>trivial⟩
def zii:cO X .BitOr qp:=⟨_,vY Ko,kj λ_ _ _=>trivial⟩
def zdB:cO X .LShift kn:=⟨_,Kk,kj λi j h=>by simp [dC] at h;exact ⟨h.1.1,h.1.2,h.2⟩⟩
def zqj:cO X .RShift xx:=⟨_,Kl,kj λi j h=>by simpa [qq] using h⟩
end
section
variable {X:Cx}{Er:XK}{pos:Pos}
abbrev XN:XK:=λ_ _ _=>False
def O5:iB X XN:=λ_ _ _ _ _ _ _ _ _ q=>q.elim
def cT (fe:Ai) (env:zm):List PV->Al
 | [],ys,st=>.ok (.ref st.length) (st++[.lst ys])
 | x::xs,ys,st=>(cS (fe (some x::env) st)).bind λy aq=>cT fe env xs (ys++[y]) aq
def ko (fe:Ai) (env:zm) (n:Nat):Nat->Nat->Al
 | 0,_,_,_=>.stuck
 | m+1,i,ys,st=>yi st n λxs=>match xs[i]? with
  | none=>.ok (.ref st.length) (st++[.lst ys])
  | some x=>(cS (fe (some x::env) st)).bind λy aq=>ko fe env n m (i+1) (ys++[y]) aq
def mJ (fe:Ai) (env:zm):Sq->Mo PV
 | .im xs,st=>if xs.length<=lim then cT fe env xs [] st else .stuck
 | .rf n,st=>ko fe env n (lim+1) 0 [] st
def jd (src:zm->Mo Sq) (fe:Ai):Ai:=λenv st=>(src env st).bind λq aq=>mJ fe env q aq
theorem Rs.snoc {K:Frag}{mg:Ab}{ρ:Ae}{H:Hp}{x:PV}{v:V}(r:R K mg ρ H x v):∀{xs:An}{vs:List V},Rs K mg ρ H xs vs->Rs K mg ρ H (xs++[x]) (vs++[v])
 | [],_,h=>by cases h;exact ⟨v,[],rfl,r,rfl⟩
 | y::xs,_,h=>by
  obtain ⟨w,q,rfl,h1,h2⟩:=h
  exact ⟨w,q++[v],rfl,h1,Rs.snoc r h2⟩
theorem El {elt iter:Expr} {x:Str} {px:Pos} {scope:Scope} {src:zm->Mo Sq} {fe:Ai} {M:Ad} (hc:X.calm=true) (S:dr X.env.scope scope x) (eN:Hid scope M X.N) (cD:((".0" : Str)::x::M).Nodup)
  (hi:MI X Er (.Name x px) iter src) (he:∀cl C ae ag fp,ME (kR X M scope cl x C ae ag fp (λ_ _=>False)) XN elt fe)
  (hs:∀v,foldedSetIterable iter X.env v=pure v:=by intro _;rfl):ME X Er (.ListComp elt [⟨.Name x px,iter,[],0⟩] scope pos) (jd src fe) :=
 PE.weak (Md (te:=tM X.K X.mg XN fe) hc S eN cD hi (λcl C ae ag fp=>he cl C ae ag fp) hs) λU H Q ⟨env,st,ρ,re,rs,h⟩=>⟨env,st,ρ,re,rs,h.then λar H0 q dD e0 s0 h0 J wk=>by
  cases q with
  | im xs =>
   obtain ⟨hl,h0⟩:=Out.ifp h0
   obtain ⟨w1,w2,w3⟩:=wk
   refine ⟨λi m ys H=>m=xs.length-i/\i<=xs.length/\ys.length=i/\∃ps st ρ,Rs X.K X.mg ρ H ps ys/\aX X.K X.mg ρ H st/\Ext ar H0 ρ H/\Out X.K X.mg ρ H (cT fe env (xs.drop i) ps st) (gV X.K X.mg Q) Er,⟨xs.length,by simp,jB _,rfl,[],dD,ar,rfl,s0,Ext.refl,h0⟩,?_⟩
   rintro i m ys H ⟨rfl,hi,hy,ps,st,ρ,cK,rs,ex,h⟩
   by_cases bj:i<xs.length
   ·refine .inr ⟨w1 i ρ H ex bj,jo (by omega),λv H' y=>?_⟩
    obtain ⟨x,hx,bX,s2,rx⟩:=w3 i ρ H st v H' ex rs bj y
    have hd:xs.drop i=x::xs.drop (i+1):=by
     rw [wa bj]
     have:=(yt.mp hx).2
     rw [this]
    rw [hd] at h
    simp only [cT] at h
    refine ⟨some x::env,st,ρ,(re.ext (e0.trans (ex.trans bX))).cons rx,s2,gO (Out.ext h bX) λaj H3 y aS e3 s3 h3 v ry=>⟨xs.length-(i+1),by omega,rfl,bj,by simp [hy],ps++[y],aS,aj,Rs.snoc ry (Rs.ext (bX.trans e3) ps cK),s3,(ex.trans bX).trans e3,h3⟩⟩
   ·have e:i=xs.length:=by omega
    subst e
    rw [List.drop_length] at h
    exact .inl ⟨w2 _ ρ H ex (ym _),jo (by omega),λl hl=>Out.newList h rs cK hl⟩
  | rf n =>
   obtain ⟨a,ha,rfl⟩:=wk
   refine ⟨λi m ys H=>m+i=lim+1/\ys.length=i/\∃ps st ρ,Rs X.K X.mg ρ H ps ys/\aX X.K X.mg ρ H st/\Ext ar H0 ρ H/\ρ[n]?=some a/\Out X.K X.mg ρ H (ko fe env n m i ps st) (gV X.K X.mg Q) Er,⟨lim+1,rfl,rfl,[],dD,ar,rfl,s0,Ext.refl,ha,h0⟩,?_⟩
   rintro i m ys H ⟨hm,hy,ps,st,ρ,cK,rs,ex,ha,h⟩
   cases m with
   | zero=>exact h.elim
   | succ m =>
    obtain ⟨xs,hn,h⟩:=jp h
    obtain ⟨vs,hH,hR⟩:=rs.addr hn ha
    cases hx:xs[i]? with
    | none =>
     simp only [hx] at h
     have:vs.length<=i:=by rw [<-hR.len];exact kJ.mp hx
     exact .inl ⟨⟨vs,aQ.of hH,this⟩,jo (by omega),λl hl=>Out.newList h rs cK hl⟩
    | some x =>
     simp only [hx] at h
     obtain ⟨v,hv,rv⟩:=hR.get hx
     refine .inr ⟨⟨vs,v,aQ.of hH,hv⟩,jo (by omega),λv' H' y=>?_⟩
     obtain ⟨e1,y⟩:=y
     subst e1
     have e2:=y vs (aQ.of hH)
     rw [hv] at e2
     cases e2
     exact ⟨some x::env,st,ρ,(re.ext (e0.trans ex)).cons rv,rs,gO h λaj H3 y aS e3 s3 h3 v ry=>⟨m,wv m,by omega,by simp [hy],ps++[y],aS,aj,Rs.snoc ry (Rs.ext e3 ps cK),s3,ex.trans e3,e3.get ha,h3⟩⟩⟩
def oz {elt iter:Expr} {x:Str} {px:Pos} {scope:Scope} {src:zm->Mo Sq} {fe:Ai} {N:Ad} (hc:X.calm=true) (S:dr X.env.scope scope x) (eN:X.N=N) (cD:((".0" : Str)::x::N).Nodup)
  (hi:MI X Er (.Name x px) iter src) (he:∀cl C ae ag fp,ME (De X scope cl x C ae ag fp (λ_ _=>False)) XN elt fe)
  (hs:∀v,foldedSetIterable iter X.env v=pure v:=by intro _;rfl):ME X Er (.ListComp elt [⟨.Name x px,iter,[],0⟩] scope pos) (jd src fe) :=
 El hc S Hid.refl (eN▸cD) hi he hs
end
section
variable {env:Env}{es:List Expr}{pos:Pos}
abbrev Em (e:Expr) (es:List Expr) (env:Env):Prop:=starEach (e::es) env=(false,eval e env)::starEach es env
def O6 {c j}:Em (.Constant c j pos) es env:=(rfl)
end
end Mi
namespace L2
open PySem PySem.Spec PyProof.Rows PySem.W
abbrev ZB (h:Heap) (z TI TO T:Addr) (f:Bool):Prop:=h.get? z=some { cls:=.type "zip", dict:=none,data:=.fields #[rawInt T,.bool f,.bool false,.ref TI,.ref TO],slots:=#[] }
section
variable {prog:Program}{w:World}{A:Around}{E:Aa}{s:Shared}{z TI TO T i1 i2 t1 t2:Addr}{k:Nat}{xs ys:Array Value}{x y a b:Value}{S1 S2:Nat->Heap->Prop}{f:Bool}{o:Obj}
end
structure ZS (z TI TO i1 i2 a b:Addr) (xs ys:Array Value) (k:Nat) (h:Heap):Prop where
 zi:(IsZip h z TI TO .none/\∃u v,IsPair h TO u v)\/∃T f o,ZB h z TI TO T f/\h.get? T=some o
 ti:IsPair h TI (.ref i1) (.ref i2)
 s1:p7 i1 a xs k h
 s2:p7 i2 b ys k h
section
variable {prog:Program}{w:World}{A:Around}{E:Aa}{s:Shared}{z TI TO i1 i2 a b:Addr}{k:Nat}{xs ys:Array Value}{x y:Value}
end
def putAll (ps:List (Key×V)) (kvs:List (Key×V)):List (Key×V):=ps.foldl (λm p=>putK m p.1 p.2) kvs
structure Ap (d z TI TO i1 i2 a b:Addr):Prop where
 z:d≠z
 TI:d≠TI
 TO:d≠TO
 i1:d≠i1
 i2:d≠i2
 a:d≠a
 b:d≠b
section
variable {prog:Program}{w:World}{A:Around}{R:Result->Shared->Prop}{z TI TO i1 i2 a b d:Addr}{xs ys:Array Value}{keys:List Key}{vals:List V}
end
section
variable {prog:Program}{w:World}{A:Around}{E:Aa}{s:Shared}{z TI TO i1 i2 a b:Addr}{xs ys:Array Value}{keys:List Key}{vals:List V}
end
end L2
namespace Mi
open PySem L2 PySem.W PySem.Spec
section
variable {X:Cx}{K:Frag}{mg:Ab}{Er:XK}{e o:Expr}{es:List Expr}{pos p apos:Pos}{k:Nat}{x:Str}{m:Al}{fs:Ah}{fo fa:Ai}
end
section
variable {X:Cx}{K:Frag}{mg:Ab}{Er:XK}{e o:Expr}{es:List Expr}{pos p apos:Pos}{fs:Ah}{fo fa:Ai}
def ly:List (Str×PV)->List Str->List PV->List Str×List PV
 | [],ks,xs=>(ks,xs)
 | q::r,ks,xs=>ly r (wE q.1 q.2 ks xs).1 (wE q.1 q.2 ks xs).2
theorem En {ρ:Ae}{H:Hp}:∀{zs:Ad}{ys:An}{us:List V}{ks:Ad}{xs:An}{vs:List V},Rs K mg ρ H ys us->Rs K mg ρ H xs vs->ks.length=vs.length ->
  ∃ws,putAll ((zs.map Sum.inr:List Key).zip us) (kz ks vs)=kz (ly (zs.zip ys) ks xs).1 ws/\Rs K mg ρ H (ly (zs.zip ys) ks xs).2 ws/\(ly (zs.zip ys) ks xs).1.length=ws.length
 | [],ys,us,ks,xs,vs,_,h,hl=>⟨vs,rfl,h,hl⟩
 | z::zs,[],us,ks,xs,vs,hy,h,hl=>by
  cases hy
  exact ⟨vs,rfl,h,hl⟩
 | z::zs,y::ys,us,ks,xs,vs,hy,h,hl=>by
  obtain ⟨u,r,rfl,h1,h2⟩:=hy
  obtain ⟨ws,q1,q2,q3⟩:=xt (z:=z) h1 hl h
  obtain ⟨O7,p1,p2,p3⟩:=En (zs:=zs) h2 q2 q3
  refine ⟨O7,?_,p2,p3⟩
  show putAll _ (L2.putK (kz ks vs) (Sum.inr z) u)=_
  rw [q1]
  exact p1
end
end Mi
namespace L2
open PySem PySem.Spec PyProof.Rows PySem.W
def Eo (K:Frag) (a:Addr):It :=
 ⟨λi H=>∃xs x,aQ K H a xs/\xs[i]?=some x,
  λi H v H'=>∃T x,H T=none/\v=.ref T/\H'=upd H T (.tup [.int i,x])/\∀xs,aQ K H a xs->xs[i]?=some x,
  λi H=>∃xs,aQ K H a xs/\xs.length<=i⟩
def O8 (e it a:Addr) (k:Nat) (h:Heap):Prop:=(∃old,IsEnum h e it k old)/\h.IsListIter it a k
def xA {X:Cx}{pins:Ac}{U:St}{H:Hp}{s:Shared}{a c:Addr}{xs:List V}(I:Inv X pins U H s) (hf:df X pins H c) (hq:aQ X.K H a xs):a≠c:=by
 rintro rfl
 rcases hq with q|⟨o,its,n,hl,_⟩
 ·rcases q with q|⟨ob,q⟩<;>(rw [hf.1] at q;cases q)
 ·have e:=I.ok.mod.kin _ _ hl
  rcases hf.2.2.2.1 with z|z
  ·exact I.ok.noex _ _ e z
  ·exact absurd (jO (yA (I.ok.bs _ _ e).1) z) (Nat.lt_irrefl _)
def O9 {P:Program}{w:World}{K:Frag}{elts:List Expr}{kt:Nat}{pos:Pos}{e it a:Addr}(ne:e≠it):Turn P w K (.Tuple elts kt pos) (Eo K a) [e,it] e (O8 e it a) where
 mem:=by simp
 obj:=λi h st c hc=>by
  obtain ⟨⟨old,he⟩,⟨o1,e1,_,d1⟩⟩:=st
  simp only [yC,List.not_mem_nil,wt] at hc
  rcases hc with q|q<;>rw [q]
  ·exact ⟨_,he,λv z=>by cases z⟩
  ·exact ⟨_,e1,λv z=>by rw [d1] at z;cases z⟩
 keep:=λi h h' st k=>by
  obtain ⟨⟨old,he⟩,⟨o1,e1,r1⟩⟩:=st
  exact ⟨⟨old,k e (by simp) _ he⟩,⟨o1,k it (by simp) _ e1,r1⟩⟩
 item:=by
  intro X hP hw hK hc i pins s U H E I hf st hg
  subst hP hw hK
  obtain ⟨xs,x,hq,hx⟩:=hg
  obtain ⟨⟨old,he⟩,hit⟩:=st
  obtain ⟨its,rv,p,hz⟩:=I.list hq
  obtain ⟨u,hu,ru⟩:=rv.get hx
  have n1:∀c∈[e,it],a≠c:=λc h=>xA I (hf c h) hq
  refine wpAny_pyNext_enum_item he hit p.isList (x:=u) (by simpa using hu) ne λh1 eo qr pT hsz kk=>⟨_,rfl,?_⟩
  refine wpAny_letOwnedTupleGo_enum (s:={ s with heap:=h1,toks:=s.toks+1 }) eo λh2 e2 sb=>?_
  have fr:H s.heap.objs.size=none:=I.hok.fresh (ym _)
  have up:∀c o,c≠e->h1.get? c=some o->h2.get? c=some o:=λc o n q=>sb.extBut _ _ n q
  have nz:s.heap.objs.size≠e:=Nat.ne_of_gt (yA he)
  have k2:∀c o,c∉[e,it]->s.heap.get? c=some o->h2.get? c=some o:=λc o nc q=>up c o (λz=>nc (by simp [z])) (kk c o (λz=>nc (by simp [z])) (λz=>nc (by simp [z])) q)
  refine ⟨.ref s.heap.objs.size,upd H s.heap.objs.size (.tup [.int i,x]),?_,rfl,⟨s.heap.objs.size,x,fr,rfl,rfl,λys hy=>by rw [I.list_inj hy hq];exact hx⟩,?_,λc cw=>?_⟩
  ·exact Inv.turnN (s:=s) (h':=h2) (t':=s.toks+1) I hf k2 (ym _) ⟨show 2<=sizeLine by decide,[.int i s.toks,u],.cons ⟨_,rfl⟩ (.cons ru .nil),_,up _ _ nz pT,rfl,_,rfl⟩
  ·refine ⟨⟨u,by rw [show ((i+1:Nat):Int)=(i:Int)+1 from rfl];exact e2⟩,let ⟨o,q,r⟩:=qr;⟨o,up _ _ ne.symm q,r⟩⟩
  ·have lt:∃o,s.heap.get? c=some o:=by
    simp only [yC,List.not_mem_nil,wt] at cw
    rcases cw with q|q<;>rw [q]
    ·exact ⟨_,he⟩
    ·exact let ⟨o,q,_⟩:=hit;⟨o,q⟩
   obtain ⟨o,q⟩:=lt
   have z:c≠s.heap.objs.size:=jb (yA q)
   rw [yE z]
   exact (hf c cw).1
 done:=by
  intro X hP hw hK hc i pins s U H E I hf st hg
  subst hP hw hK
  obtain ⟨xs,hq,hx⟩:=hg
  obtain ⟨⟨old,he⟩,hit⟩:=st
  obtain ⟨its,rv,p,hz⟩:=I.list hq
  have hl:=rv.length
  refine wpAny_pyNext_enum_end (I.ok.hd hc) he hit p.isList (by simp;omega) λh' eb=>⟨rfl,?_⟩
  exact Inv.turnL (ch:=[e,it]) (t':=s.toks) I hf λc o nc q=>eb c o (λz=>nc (by simp [z])) q
 self:=λ_ _ _ _ _ st h=>by
  obtain ⟨⟨old,he⟩,_⟩:=st
  exact wpAny_pyIter_enum he h
theorem Ep:bootBuiltins "enumerate" = some (.type "enumerate"):=by decide +kernel
def O_ (K:Frag) (ta:TA):TI:=λU H R=>ta U H λvs H1=>∃a,vs=[.ref a]/\(∃xs,aQ K H1 a xs)/\R (Eo K a) H1
theorem Pa {X:Cx} {elts:List Expr} {kt:Nat} {tp:Pos} {x:Expr} {ta:TA} {p pos:Pos} (hg:Gl X "enumerate") (hm:X.mg "enumerate" = none) (ha:PA X [x] ta) (hs:starEach [x] X.env=[(false,eval x X.env)]:=by rfl) :
  PI X (.Tuple elts kt tp) (.Call (.Name "enumerate" p) [x] [] pos) (O_ X.K ta):=by
 intro pins s U H R I h
 refine Call_ (kM I hg hm Ep (PyProof.Rows.callWith_type1 (aP (ha pos pins s U H _ I h) λus s1 ⟨vs,H1,I1,r1,q1⟩=>?_) hs rfl))
 obtain ⟨a,e,⟨xs,hq⟩,q⟩:=q1
 subst e
 obtain ⟨u,rfl,ru⟩:=r1.one
 obtain rfl:u=Value.ref a:=ru
 obtain ⟨its,_,p1,_⟩:=I1.list hq
 refine call_enumerate_list p1.isList λh' he hit hsz kk=>wpAny_pyIter_enum he ?_
 have ne:∀(n:Nat),n+1≠n:=λn z=>by omega
 refine ⟨_,[s1.heap.objs.size+1,s1.heap.objs.size],_,_,H1,rfl,I1.kept (t':=s1.toks) kk,O9 (ne _),⟨⟨_,he⟩,hit⟩,λc hc=>?_,q⟩
 have le:s1.heap.objs.size<=c:=by
  simp only [yC,List.not_mem_nil,wt] at hc
  rcases hc with q|q<;>rw [q]<;>first|exact ym _|exact Nat.le_add_right _ _
 exact I1.fpOk le (I1.hok.fresh le)
end L2
namespace Mi
open PySem L2 PySem.W PySem.Spec
section
variable {X:Cx}{Er:XK}{pos:Pos}{dX:List Stmt}{gb:Aj}{fs:Ah}
def d8 (g:PV->zm->Option zm) (body:Aj) (n:Nat):Nat->Nat->Aj
 | 0,_,_,_=>.stuck
 | m+1,i,env,st=>yi st n λxs=>match xs[i]? with
  | none=>.ok (.nx env) st
  | some x=>match g (.tup [.int i,x]) env with
   | none=>.stuck
   | some bK=>(body bK st).bind λfl ay=>match fl with
    | .nx e=>d8 g body n m (i+1) e ay
    | .ct e=>d8 g body n m (i+1) e ay
    | .bk e=>.ok (.nx e) ay
    | .rt v=>.ok (.rt v) ay
def gP:List PV->Mo Nat
 | [.ref n],st=>yi st n λ_=>.ok n st
 | _,_=>.stuck
def sP {α:Type}{K:Frag}{mg:Ab}{ρ:Ae}{H:Hp}{vs:An}{st:aa}{f:Nat->Mo α}{good:List Addr->Hp->α->aa->Prop}(h:Out K mg ρ H ((gP vs st).bind f) good Er):∃n xs,vs=[.ref n]/\st[n]?=some (.lst xs)/\Out K mg ρ H (f n st) good Er:=by
 unfold gP at h
 split at h
 ·rename_i n
  unfold yi at h
  cases hn:st[n]? with
  | none=>simp only [hn] at h;exact h.elim
  | some so =>
   cases so with
   | lst xs=>simp only [hn] at h;exact ⟨n,xs,rfl,hn,h⟩
   | _=>simp only [hn] at h;exact h.elim
 ·exact h.elim
def oA (fs:Ah) (g:PV->zm->Option zm) (body:Aj):Aj:=λenv st=>(fs env st).bind λvs aq=>(gP vs aq).bind λn aq=>d8 g body n (lim+1) 0 env aq
def Pb {elts:List Expr} {kt:Nat} {tp p ip:Pos} {x:Expr} {gt:PV->zm->Option zm} (hp:PassesOwn (model X.prog X.w) X.A X.env X.xe) (hc:X.calm=true) (hm:X.mg "enumerate" = none) (ha:MA X Er [x] fs) (hg:MG X Er (.Tuple elts kt tp) gt) (hb:e_ X Er dX gb)
  (qt:Gl X "enumerate" := by rfl) (cC:starEach [x] X.env=[(false,eval x X.env)]:=by rfl) (hs:∀v,foldedSetIterable (.Call (.Name "enumerate" p) [x] [] ip) X.env v=pure v:=by intro _;rfl) :
  MS X Er (.For (.Tuple elts kt tp) (.Call (.Name "enumerate" p) [x] [] ip) dX [] pos) (oA fs gt gb) :=
 PS.weak (vi hp hc (Pa qt hm ha cC) hg hb hs) λD U H ⟨env,st,ρ,re,rs,h⟩=>⟨env,st,ρ,re,rs,h.then λar H0 vs dD e0 s0 h0 us ru=>by
  obtain ⟨n,om,rfl,xB,h0⟩:=sP h0
  obtain ⟨v,rfl,rv⟩:=ru.one
  obtain ⟨a,rfl,ha⟩:=rv
  obtain ⟨oh,xC,xD⟩:=s0.addr xB ha
  refine ⟨a,rfl,⟨_,aQ.of xC⟩,?_⟩
  refine ⟨λi m U H=>∃env st ρ,bg X.K X.mg ρ H env U/\aX X.K X.mg ρ H st/\ρ[n]?=some a/\Out X.K X.mg ρ H (d8 gt gb n m i env st) (gS X.K X.mg D) Er,⟨lim+1,env,dD,ar,re.ext e0,s0,ha,h0⟩,?_⟩
  rintro i m U H ⟨env,st,ρ,re,rs,ha,h⟩
  cases m with
  | zero=>exact h.elim
  | succ m =>
   obtain ⟨xs,hn,h⟩:=jp h
   obtain ⟨vs,hH,hR⟩:=rs.addr hn ha
   cases hx:xs[i]? with
   | none =>
    simp only [hx] at h
    have:vs.length<=i:=by rw [<-hR.len];exact kJ.mp hx
    exact .inl ⟨⟨vs,aQ.of hH,this⟩,Out.now (x:=Fl.nx env) h rs U re⟩
   | some x =>
    simp only [hx] at h
    obtain ⟨v,hv,rv⟩:=hR.get hx
    refine .inr ⟨⟨vs,v,aQ.of hH,hv⟩,_,λai H' p'=>⟨m,wv m,p'⟩,λv' H' y=>?_⟩
    obtain ⟨T,x',hT,rfl,rfl,y⟩:=y
    have e2:=y vs (aQ.of hH)
    rw [hv] at e2
    cases e2
    have ex:Ext ρ H ρ (upd H T (.tup [.int i,v])):=Ext.new hT
    cases hgx:gt (.tup [.int i,x]) env with
    | none=>simp only [hgx] at h;exact h.elim
    | some bK =>
     simp only [hgx] at h
     refine ⟨.tup [.int i,x],env,bK,ρ,⟨T,[.int i,v],rfl,.inl (.inl jf),_,_,rfl,rfl,_,_,rfl,R.ext ex x rv,rfl⟩,re.ext ex,hgx,λav r1=>⟨bK,st,ρ,r1,rs.new hT,Out.then (Out.ext h ex) λaj H3 fl aS e3 s3 h3=>?_⟩⟩
     cases fl with
     | nx e=>exact λaA r4=>⟨e,aS,aj,r4,s3,e3.get ha,h3⟩
     | ct e=>exact λaA r4=>⟨e,aS,aj,r4,s3,e3.get ha,h3⟩
     | bk e=>exact Out.fl (D:=D) (fl:=.nx e) (E:=Er) h3 s3
     | rt v=>exact Out.fl (D:=D) (fl:=.rt v) (E:=Er) h3 s3⟩
end
section
variable {X:Cx}{Er:XK}{pos:Pos}{fs:Ah}
end
end Mi
namespace L2
open PySem PySem.Spec PyProof.Rows PySem.W
theorem Es:∀{is:List Int}{its:Af},Vals (is.map V.int) its->(∀v∈its,∃a t,v=Value.int a t)/\numsOf its=is
 | [],_,.nil=>⟨λ_ h=>absurd h (by simp),rfl⟩
 | i::is,_,.cons r rs=>by
  obtain ⟨t,rfl⟩:=r
  obtain ⟨h1,h2⟩:=Es rs
  refine ⟨λv hv=>?_,by show i::numsOf _=_;rw [h2]⟩
  rcases yC.mp hv with q|q
  ·exact ⟨i,t,q⟩
  ·exact h1 v q
def Pc {X:Cx} (hc:X.calm=true):bQ X (.builtin "sum") (λxs H Q=>∃(a:Addr) (is:List Int),xs=[V.ref a]/\aQ X.K H a (is.map V.int)/\Q (.int is.sum) H):=by
 intro pins s U H xs us Q I r h
 obtain ⟨a,is,rfl,hq,q⟩:=h
 obtain ⟨u,rfl,ru⟩:=r.one
 obtain rfl:u=Value.ref a:=ru
 obtain ⟨its,rv,p,hz⟩:=I.list hq
 obtain ⟨h1,h2⟩:=Es rv
 obtain ⟨ys,e⟩:=AllInts.items (vs:=its.toArray) (λv hv=>h1 v (by simpa using hv))
 have hl:=p.isList
 rw [e] at hl
 refine sum_intListG (I.ok.hd hc) hl λh' tk t' hk=>?_
 have es:preSum (numAt ys) ys.size=is.sum:=by
  rw [preSum_eq,List.take_of_length_le (by simp),<-nums_intItems,<-e]
  show (numsOf its).sum=_
  rw [h2]
 rw [es]
 exact ⟨.int is.sum,H,I.kept (t':=tk) hk,⟨_,rfl⟩,q⟩
def Pd (K:Frag) (te:TE) (tk:TO):TE:=λU H Q=>te U H λx H1=>tk U H1 λk H2=>k=some (-1)/\∃a xs,x=.ref a/\aQ K H2 a xs/\∀p,H2 p=none->Q (.ref p) (upd H2 p (.lst xs.reverse))
def Pe {X:Cx}{e k:Expr}{te:TE}{tk:TO}{p2 pos:Pos}(he:PE X e te) (hk:PO X (some k) tk):PE X (.Subscript e (.Slice none none (some k) p2) pos) (Pd X.K te tk):=by
 intro pins s U H Q I h
 refine Subscript_ (aP (he pins s U H _ I h) λv s1 ⟨x,H1,I1,r1,q1⟩=>?_)
 refine wpAny_Slice ?_
 rw [evalPart_none]
 refine zZ ?_
 refine zZ ?_
 refine aP (hk pins s1 U H1 _ I1 q1) λvk s3 ⟨k',H3,I3,pk,lA,a,xs,ex,hq,q3⟩=>?_
 subst ex lA
 obtain rfl:v=Value.ref a:=r1
 have I4:Inv X pins U H3 { s3 with heap:=s3.heap.push { cls:=.type "slice", data:=.fields #[.none,.none,vk] } }:=I3.kept (t':=s3.toks) λb ob q=>yh _ q
 obtain ⟨its,rv,p,hz⟩:=I4.list hq
 show wpAny (model X.prog X.w) X.A (subscriptTail e (.Slice none none (some k) p2) (.ref a) (.ref s3.heap.objs.size)) (EP X pins U Q) X.xe { s3 with heap:=s3.heap.push { cls:=.type "slice", data:=.fields #[.none,.none,vk] } }
 refine tail_any (ops:=[.ref a,.ref s3.heap.objs.size]) p.isList.typeIs list_getitem_lookup ?_ rfl
 have hlen:=rv.length
 refine wpAny_getItem_list_slice p.isList (Heap.IsSliceOf.new ..) .none .none pk (by decide) ?_ (by rw [yQ];omega)
 rw [krv_pick]
 have rr:Vals xs.reverse its.reverse:=rv.reverse
 refine ⟨.ref (s3.heap.push { cls:=.type "slice", data:=.fields #[.none,.none,vk] }).objs.size,upd H3 _ (.lst xs.reverse),I4.laid (t':=s3.toks) (λb u e=>yh _ e) (ym _) (o:=.lst xs.reverse) ?_,rfl,q3 _ (I4.hok.fresh (ym _))⟩
 exact ⟨by simpa using hz,its.reverse,0,rr,yW _ rfl⟩
def cj (z:Str) (n:Int):Str:=if n<1 then Str.empty else if (n==1||z.length==0)=true then z else ⟨(List.replicate n.toNat z.cps).foldl (·++·) #[]⟩
theorem Et (c:Array Nat):∀(k:Nat) (a:Array Nat),((List.replicate k c).foldl (·++·) a).size=a.size+k*c.size
 | 0,a=>by simp
 | k+1,a=>by
  rw [List.replicate_succ,List.foldl_cons,Et c k,Array.size_append,Nat.succ_mul]
  omega
theorem xE (z:Str) (n:Int):(cj z n).length=n.toNat*z.length:=by
 unfold cj
 split
 ·rename_i h
  have:n.toNat=0:=by omega
  rw [this,Nat.zero_mul];rfl
 ·rename_i h
  split
  ·rename_i h2
   simp only [Bool.or_eq_true,beq_iff_eq] at h2
   rcases h2 with h2|h2
   ·subst h2;simp
   ·rw [h2];simp
  ·show ((List.replicate n.toNat z.cps).foldl (·++·) #[]).size=_
   rw [Et]
   show 0+n.toNat*z.cps.size=_
   rw [Nat.zero_add];rfl
def Eu:R2:=λx y H Q=>∃z n,x=.str z/\y=.int n/\(0<=n/\n<=1000/\z.length<=1000)/\Q (.str (cj z n)) H
theorem Pf {X:Cx}:bh X (binaryOp .Mult) Eu:=by
 intro pins s U H x y v u Q I rx ry h
 obtain ⟨z,n,rfl,rfl,⟨h0,h1,h2⟩,q⟩:=h
 obtain ⟨t,rfl⟩:=rx
 obtain ⟨t',rfl⟩:=ry
 have hb:n.toNat*z.length<=1000000:=by
  have:n.toNat<=1000:=by omega
  calc n.toNat*z.length<=1000*1000:=Nat.mul_le_mul this h2
   _=1000000:=rfl
 have hsz:=sizeLine_eq
 refine PySem.P.mul_str (by rw [jU (by omega),jU (by omega)];rfl) (λha _=>?_) (λ_ _=>?_) ?_
 ·have:(2 ^ 63-1:Int)/n>=1000:=by
   rw [ge_iff_le,Int.le_ediv_iff_mul_le (by omega)]
   omega
  omega
 ·show decide _=false
  rw [decide_eq_false_iff_not]
  have:z.length*n.toNat<=1000000:=by rw [Nat.mul_comm];exact hb
  rw [sizeLine_eq];omega
 ·by_cases c1:n<1
  ·rw [zF c1]
   have e:cj z n=Str.empty:=by unfold cj;rw [zF c1]
   rw [e] at q
   exact ⟨by decide,.str Str.empty,H,I.tok _,⟨_,rfl⟩,q⟩
  ·rw [zP c1]
   by_cases c2:(n==1||z.length==0)=true
   ·rw [zF c2]
    have e:cj z n=z:=by unfold cj;rw [zP c1,zF c2]
    rw [e] at q
    exact ⟨.str z,H,I,⟨_,rfl⟩,q⟩
   ·rw [zP c2]
    have e:cj z n=⟨(List.replicate n.toNat z.cps).foldl (·++·) #[]⟩:=by unfold cj;rw [zP c1,zP c2]
    have hl:=xE z n
    rw [e] at q hl
    exact ⟨by rw [hl,sizeLine_eq];omega,.str _,H,I.tok _,⟨_,rfl⟩,q⟩
end L2
namespace Mi
open PySem L2 PySem.W PySem.Spec
section
variable {X:Cx}{K:Frag}{mg:Ab}{Er:XK}{e o:Expr}{es:List Expr}{pos apos:Pos}{fs:Ah}{fo fa:Ai}
def jq:Am
 | .int i,.int j,st=>DR (.int i) (.int j) st
 | .str z,.int n,st=>if 0<=n/\n<=1000/\z.length<=1000 then .ok (.str (cj z n)) st else .stuck
 | _,_,_=>.stuck
def wj:cO X .Mult jq:=by
 obtain ⟨r,h1,h2⟩:=Nq (X:=X)
 refine ⟨λx y H Q=>r x y H Q\/Eu x y H Q,h1.or Pf,fun ρ H st x y v w Q E s rx ry h=>?_⟩
 cases x with
 | int i =>
  cases y with
  | int j=>exact .inl (h2 ρ H st (.int i) (.int j) v w Q E s rx ry h)
  | _=>exact h.elim
 | str z =>
  cases y with
  | int n =>
   obtain ⟨c,h⟩:=Out.ifp h
   cases rx;cases ry
   exact .inr ⟨z,n,rfl,rfl,c,Out.now (x:=PV.str (cj z n)) h s _ rfl⟩
  | _=>exact h.elim
 | _=>exact h.elim
def dM:List PV->Option (List Int)
 | []=>some []
 | .int i::r=>(dM r).map (i::·)
 | _::_=>none
theorem Ew {ρ:Ae}{H:Hp}:∀{xs:An}{is:List Int}{vs:List V},dM xs=some is->Rs K mg ρ H xs vs->vs=is.map V.int
 | [],is,vs,e,h=>by cases e;cases h;rfl
 | .int i::r,is,vs,e,h=>by
  simp only [dM,Option.map_eq_some_iff] at e
  obtain ⟨ir,e1,rfl⟩:=e
  obtain ⟨v,r',rfl,h1,h2⟩:=h
  cases h1
  rw [Ew e1 h2]
  rfl
 | .non::_,_,_,e,_=>by cases e
 | .bl _::_,_,_,e,_=>by cases e
 | .str _::_,_,_,e,_=>by cases e
 | .ty _::_,_,_,e,_=>by cases e
 | .tup _::_,_,_,e,_=>by cases e
 | .frl _::_,_,_,e,_=>by cases e
 | .ref _::_,_,_,e,_=>by cases e
 | .fn _::_,_,_,e,_=>by cases e
 | .kd _ _::_,_,_,e,_=>by cases e
 | .exo _ _ _::_,_,_,e,_=>by cases e
def xF:Al:=λvs st=>(gP vs st).bind λn st=>yi st n λxs=>match dM xs with
 | some is=>.ok (.int is.sum) st
 | none=>.stuck
def Pg (hc:X.calm=true):cE X (.builtin "sum") xF:=⟨_,Pc hc,fun ρ H st xs vs Q E s r h=>by
 obtain ⟨n,ys,rfl,hn,h⟩:=sP h
 obtain ⟨c9,lT,h⟩:=jp h
 obtain ⟨v,rfl,rv⟩:=r.one
 obtain ⟨a,rfl,ha⟩:=rv
 obtain ⟨ws,hH,hR⟩:=s.addr lT ha
 cases hi:dM c9 with
 | none=>simp only [hi] at h;exact h.elim
 | some is =>
  simp only [hi] at h
  have e:=Ew hi hR
  subst e
  exact ⟨a,is,rfl,aQ.of hH,Out.now (x:=PV.int is.sum) h s _ rfl⟩⟩
theorem Ph:bootBuiltins "sum" = some (.builtin "sum"):=by decide +kernel
def mK:Al
 | [.int i],st=>if i.natAbs.log2<1920 then .ok (.str (toString i)) st else .stuck
 | _,_=>.stuck
def Ex:cE X (.type "str") mK:=⟨_,KA,fun ρ H st xs vs Q E s r h=>by
 unfold mK at h
 split at h
 ·rename_i i
  obtain ⟨c,h⟩:=Out.ifp h
  obtain ⟨v,rfl,rfl⟩:=r.one
  exact ⟨i,rfl,c,Out.now (x:=PV.str (toString i)) h s _ rfl⟩
 ·exact h.elim⟩
def sQ (o:PV) (k:Option Int):Mo PV:=λst=>match o,k with
 | .ref n,some (-1)=>yi st n λxs=>.ok (.ref st.length) (st++[.lst xs.reverse])
 | _,_=>.stuck
def qu (fa:Ai) (fk:zm->Mo (Option Int)):Ai:=λenv st=>(fa env st).bind λx aq=>(fk env aq).bind λk ay=>sQ x k ay
theorem Rs.reverse {ρ:Ae}{H:Hp}:∀{xs:An}{vs:List V},Rs K mg ρ H xs vs->Rs K mg ρ H xs.reverse vs.reverse
 | [],_,h=>by cases h;rfl
 | x::xs,_,h=>by
  obtain ⟨v,r,rfl,h1,h2⟩:=h
  rw [List.reverse_cons,List.reverse_cons]
  exact (Rs.reverse h2).append ⟨v,[],rfl,h1,rfl⟩
def zqu {k:Expr}{fk:zm->Mo (Option Int)}{p2:Pos}(ha:ME X Er e fa) (hk:MO X Er (some k) fk):ME X Er (.Subscript e (.Slice none none (some k) p2) pos) (qu fa fk) :=
 PE.weak (Pe ha hk) λU H Q ⟨env,st,ρ,re,rs,h⟩=>⟨env,st,ρ,re,rs,h.then λaf H1 x aq e1 s1 h1 v rv=>⟨env,aq,af,re.ext e1,s1,h1.then λap H2 l ay e2 s2 h2=>by
  unfold sQ at h2
  split at h2
  ·rename_i n
   obtain ⟨xs,hn,h2⟩:=jp h2
   obtain ⟨a,vs,rfl,ha,k1,k2⟩:=R.refL s2 (R.ext e2 _ rv) hn
   exact ⟨rfl,a,vs,rfl,aQ.of k1,λp hp=>Out.newList h2 s2 k2.reverse hp⟩
  ·exact h2.elim⟩⟩
def qv:List Expr->Option (Ad)
 | []=>some []
 | .Constant (.str z) _ _::r=>(qv r).map (z::·)
 | _::_=>none
def sR (zs:Ad):Ah:=λ_ st=>.ok (zs.map PV.str) st
def ze9:∀{es:List Expr}{zs:Ad},qv es=some zs->MA X Er es (sR zs):=by
 intro es
 induction es with
 | nil=>intro zs h;cases h;exact zt
 | cons e r ih =>
  intro zs h
  cases e with
  | Constant c j p =>
   cases c with
   | str z =>
    simp only [qv,Option.map_eq_some_iff] at h
    obtain ⟨zr,h1,rfl⟩:=h
    exact DO zS (ih h1) O6
   | _=>cases h
  | _=>cases h
end
section
variable {env:zm}{st:aa}{fa fb fo fi fv fe:Ai}{fs:Ah}{ft:Ak}{g:Aj}{src:zm->Mo Sq}
@[simp] def Wa (xs:An) (i:Int):zv (.frl xs) (.int i) st=b3 (dh xs i) st:=(rfl)
@[simp] def mL (n:Nat) (i:Int):zv (.ref n) (.int i) st=yi st n λxs=>b3 (dh xs i) st:=(rfl)
@[simp] def Ey (z:Str) (i:Int):zv (.str z) (.int i) st=if z.length<=lim then b3 ((dh z.cps.toList i).map λc=>.str ⟨#[c]⟩) st else .stuck:=(rfl)
@[simp] def iI:jd src fe env st=(src env st).bind λq aq=>mJ fe env q aq:=(rfl)
@[simp] def iJ (xs:An):mJ fe env (.im xs) st=if xs.length<=lim then cT fe env xs [] st else .stuck:=(rfl)
@[simp] def Ez:bP fs env st=(fs env st).bind mH:=(rfl)
@[simp] def Pj (j:Int):mH [.int j] st=if cR j=true then .ok (.im (nums 0 j.toNat)) st else .stuck:=(rfl)
@[simp] def Wb (gt:PV->zm->Option zm):oA fs gt g env st=(fs env st).bind λvs aq=>(gP vs aq).bind λn aq=>d8 gt g n (lim+1) 0 env aq:=(rfl)
@[simp] def Wc (n:Nat):gP [.ref n] st=yi st n λ_=>.ok n st:=(rfl)
@[simp] def Pk (i:Int):mK [.int i] st=if i.natAbs.log2<1920 then .ok (.str (toString i)) st else .stuck:=(rfl)
@[simp] def Pl (i j:Int):jq (.int i) (.int j) st=if gK i j=true then .ok (.int (i*j)) st else .stuck:=(rfl)
@[simp] def EC (z:Str) (n:Int):jq (.str z) (.int n) st=if 0<=n/\n<=1000/\z.length<=1000 then .ok (.str (cj z n)) st else .stuck:=(rfl)
@[simp] def Pm (fk:zm->Mo (Option Int)):qu fa fk env st=(fa env st).bind λx aq=>(fk env aq).bind λk ay=>sQ x k ay:=(rfl)
@[simp] def Pn (n:Nat):sQ (.ref n) (some (-1)) st=yi st n λxs=>.ok (.ref st.length) (st++[.lst xs.reverse]):=(rfl)
@[simp] def Wd (vs:An):xF vs st=(gP vs st).bind λn st=>yi st n λxs=>match dM xs with|some is=>.ok (.int is.sum) st|none=>.stuck:=(rfl)
@[simp] def ED (neg:Bool) (x:PV) (ys:An):yH neg x (.tup ys) st=if okIn x ys then .ok (.bl (neg.xor (ys.any λy=>a_ y x))) st else .stuck:=by unfold yH;cases x<;>rfl
@[simp] def Po (n:Nat) (l u:Option Int):oq (.ref n) l u st=yi st n λxs=>.ok (.ref st.length) (st++[.lst (cX xs l u)]):=(rfl)
@[simp] def wm (n:Nat):jx [.ref n] st=yi st n λxs=>.ok (.tup xs) st:=(rfl)
@[simp] def EE (n:Nat) (y:PV):yJ (.ref n) y st=yi st n λxs=>if xs.length<lim then .ok .non (st.set n (.lst (xs++[y]))) else .stuck:=(rfl)
end
def Pre (a b:aa):Prop:=∃d,b=a++d
def Pre.of (st d:aa):Pre st (st++d):=⟨d,rfl⟩
def Pre.get {a b:aa}(h:Pre a b) {n:Nat}{so:SO}(e:a[n]?=some so):b[n]?=some so:=by
 obtain ⟨d,rfl⟩:=h
 rw [gi (yt.mp e).1]
 exact e
def yj (st:aa) (so:SO):(st++[so])[st.length]?=some so:=by simp
theorem lB {fe:Ai}{env:zm}{f:PV->PV}{st:aa}:∀(xs:An),(∀x∈xs,fe (some x::env) st=.ok (f x) st)->∀(ys:An),cT fe env xs ys st=.ok (.ref st.length) (st++[.lst (ys++xs.map f)])
 | [],_,ys=>by simp [cT]
 | x::xs,h,ys=>by
  simp only [cT,h x (y0 ..),mI,zG]
  rw [lB xs (λx' sH=>h x' (jm _ sH))]
  simp
def zqB {K:Frag}{mg:Ab}{t:IsT}(hs:t.sub=λ_ _=>none) (hT:t.subT=λ_ _=>none) (hC:t.tyC=λ_ _=>none):IsF K mg t where
 s c B b h:=by rw [hs] at h;cases h
 tt c n b h:=by rw [hT] at h;cases h
 u T B b h:=by rw [hC] at h;cases h
 x c C h hm z:=by
  rcases z with ⟨B,b,z⟩|⟨n,b,z⟩
  ·rw [hs] at z;cases z
  ·rw [hT] at z;cases z
 i c C h hm z:=by
  rcases z with ⟨B,b,z⟩|⟨n,b,z⟩
  ·rw [hs] at z;cases z
  ·rw [hT] at z;cases z
section
variable {X:Cx}{Er:XK}{pos:Pos}
inductive qw (X:Cx) (Er:XK):List (Option Expr)->List Expr->List Str->List (Ai)->Prop
 | nil:qw X Er [] [] [] []
 | cons {z:Str} {j} {p:Pos} {v:Expr} {f:Ai} {ks:List (Option Expr)} {vs:List Expr} {zs:Ad} {fs:List (Ai)} (hv:ME X Er v f) (hr:qw X Er ks vs zs fs):qw X Er (some (.Constant (.str z) j p)::ks) (v::vs) (z::zs) (f::fs)
def qw.len {ks:List (Option Expr)}{vs:List Expr}{zs:Ad}{fs:List (Ai)}(h:qw X Er ks vs zs fs):ks.length=vs.length/\zs.length=fs.length/\ks.length=zs.length/\ks.all (·.isSome)=true:=by
 induction h with
 | nil=>exact ⟨rfl,rfl,rfl,rfl⟩
 | cons hv hr ih=>exact ⟨by simp [ih.1],by simp [ih.2.1],by simp [ih.2.2.1],by simpa using ih.2.2.2⟩
def kq:Option SO->Bool
 | some (.dic [] [])=>true
 | _=>false
def Pp {o:Option SO}(h:kq o=true):o=some (.dic [] []):=by
 unfold kq at h
 split at h
 ·rfl
 ·cases h
theorem EF:∀{zs:Ad}{vs:List V},(zs.map V.str).zip vs=((zs.map Sum.inr:List Key).zip vs).map λkv=>(kV kv.1,kv.2)
 | [],_=>rfl
 | _::_,[]=>rfl
 | z::zs,v::vs=>by simp only [yu,List.zip_cons_cons,EF (zs:=zs) (vs:=vs)];rfl
end
section
variable {X:Cx}
end
section
variable {X:Cx}
def Pq:bh X (compareOp .IsNot) (λx y H Q=>∃a b,x=.bl a/\y=.bl b/\Q (.bl (!(a==b))) H):=by
 intro pins s U H x y v u Q I rx ry h
 obtain ⟨a,b,rfl,rfl,q⟩:=h
 cases rx;cases ry
 exact PyProof.Rows.isnot_bool ⟨.bl (!(a==b)),H,I,rfl,q⟩
def iK:Am
 | .bl a,.bl b,st=>.ok (.bl (!(a==b))) st
 | x,y,st=>DT x y st
def ziA:b_ X .IsNot iK:=by
 obtain ⟨r,h1,h2⟩:=Ny (X:=X)
 refine ⟨λx y H Q=>r x y H Q\/_,h1.or Pq,fun ρ H st x y v w Q E s rx ry h=>?_⟩
 unfold iK at h
 split at h
 ·rename_i a b
  cases rx;cases ry
  exact .inr ⟨_,_,rfl,rfl,Out.now (x:=PV.bl (!(a==b))) h s _ rfl⟩
 ·exact .inl (h2 ρ H st _ _ v w Q E s rx ry h)
end
def cY (f:PV->PV->Option Bool):List PV->List PV->Option Bool
 | [],[]=>some true
 | x::xs,y::ys=>match f x y,cY f xs ys with
  | some a,some b=>some (a&&b)
  | _,_=>none
 | _,_=>some false
def dN (f:PV->PV->Option Bool) (bO:Ad) (c9:An):List Str->List PV->Option Bool
 | k::ks,x::xs=>match (bO.zip c9).lookup k with
  | none=>some false
  | some y=>match f x y,dN f bO c9 ks xs with
   | some a,some b=>some (a&&b)
   | _,_=>none
 | _,_=>some true
def eq1 (x y:PV):Option Bool:=if plain x=true/\plain y=true/\dep x<=100 then some (a_ x y) else none
theorem xG {f:PV->PV->Option Bool}:∀{xs ys:An}{b:Bool},cY f xs ys=some b->∃e:Nat->Bool,(∀j x y,xs[j]?=some x->ys[j]?=some y->f x y=some (e j))/\((List.range (min xs.length ys.length)).all e&&xs.length==ys.length)=b
 | [],[],b,h=>by cases h;exact ⟨λ_=>true,λj x y h=>by simp at h,by simp⟩
 | [],y::ys,b,h=>by cases h;exact ⟨λ_=>true,λj x y h=>by simp at h,by simp⟩
 | x::xs,[],b,h=>by cases h;exact ⟨λ_=>true,λj x y _ h=>by simp at h,by simp⟩
 | x::xs,y::ys,b,h=>by
  simp only [cY] at h
  cases hf:f x y with
  | none=>rw [hf] at h;cases h
  | some a =>
   cases hr:cY f xs ys with
   | none=>rw [hf,hr] at h;cases h
   | some c =>
    rw [hf,hr] at h
    cases h
    obtain ⟨e,h1,h2⟩:=xG hr
    refine ⟨λj=>match j with|0=>a|j+1=>e j,λj u v hu hv=>?_,?_⟩
    ·cases j with
     | zero=>simp at hu hv;subst hu;subst hv;exact hf
     | succ j=>simp at hu hv;exact h1 j u v hu hv
    ·have e1:min (x::xs).length (y::ys).length=min xs.length ys.length+1:=by simp only [jP];omega
     have e2:((x::xs).length==(y::ys).length)=(xs.length==ys.length):=by
      rw [Bool.eq_iff_iff];simp
     rw [e1,e2,List.range_succ_eq_map,List.all_cons,List.all_map,<-h2,Bool.and_assoc]
     rfl
section
variable {X:Cx}{Er:XK}{K:Frag}{mg:Ab}{ρ:Ae}{pins:Ac}{U:L2.St}{H:Hp}{s:Shared}{st:aa}
def Pu {ρ:Ae}(nd:ρ.Nodup) {n m:Nat}{a:Addr}(h:ρ[n]?=some a) (h':ρ[m]?=some a):n=m:=by
 obtain ⟨h1,h2⟩:=yt.mp h
 obtain ⟨h3,h4⟩:=yt.mp h'
 have pw:=List.pairwise_iff_getElem.mp nd
 rcases Nat.lt_trichotomy n m with c|c|c
 ·exact absurd (h2.trans h4.symm) (pw n m h1 h3 c)
 ·exact c
 ·exact absurd (h4.trans h2.symm) (pw m n h3 h1 c)
theorem EG {f:PV->PV->Option Bool}(hf:∀x y v b,f x y=some b->R K mg ρ H x v->R K mg ρ H y v->b=true):∀{xs ys:An}{vs:List V}{b:Bool},cY f xs ys=some b->Rs K mg ρ H xs vs->Rs K mg ρ H ys vs->b=true
 | [],[],vs,b,h,_,_=>by cases h;rfl
 | [],y::ys,vs,b,h,rx,ry=>by cases rx;obtain ⟨_,_,e,_⟩:=ry;cases e
 | x::xs,[],vs,b,h,rx,ry=>by cases ry;obtain ⟨_,_,e,_⟩:=rx;cases e
 | x::xs,y::ys,vs,b,h,rx,ry=>by
  obtain ⟨v,r,rfl,r1,r2⟩:=rx
  obtain ⟨v',r',e,r3,r4⟩:=ry
  cases e
  simp only [cY] at h
  cases h1:f x y with
  | none=>rw [h1] at h;cases h
  | some a =>
   cases h2:cY f xs ys with
   | none=>rw [h1,h2] at h;cases h
   | some c =>
    rw [h1,h2] at h
    cases h
    rw [hf x y v a h1 r1 r3,EG hf h2 r2 r4]
    rfl
theorem EH {f:PV->PV->Option Bool}(hf:∀x v b,f x x=some b->R K mg ρ H x v->b=true) {xH:Ad}{om:An}:∀{ks:Ad}{xs:An}{vs:List V}{b:Bool},(∀k x,(k,x)∈ks.zip xs->(xH.zip om).lookup k=some x)->dN f xH om ks xs=some b->Rs K mg ρ H xs vs->b=true
 | [],xs,vs,b,_,h,_=>by cases xs<;>(cases h;rfl)
 | k::ks,[],vs,b,_,h,_=>by cases h;rfl
 | k::ks,x::xs,vs,b,hm,h,rx=>by
  obtain ⟨v,r,rfl,r1,r2⟩:=rx
  simp only [dN] at h
  rw [hm k x (by simp)] at h
  simp only at h
  cases h1:f x x with
  | none=>rw [h1] at h;cases h
  | some a =>
   cases h2:dN f xH om ks xs with
   | none=>rw [h1,h2] at h;cases h
   | some c =>
    rw [h1,h2] at h
    cases h
    rw [hf x v a h1 r1,EH hf (λk' x' h'=>hm k' x' (by simp [h'])) h2 r2]
    rfl
theorem EI:∀{ks:Ad}{xs:An},ks.Nodup->∀k x,(k,x)∈ks.zip xs->(ks.zip xs).lookup k=some x
 | [],_,_,k,x,h=>by simp at h
 | _::_,[],_,k,x,h=>by simp at h
 | k0::ks,x0::xs,nd,k,x,h=>by
  rw [jH] at nd
  rw [List.zip_cons_cons] at h ⊢
  rcases yC.mp h with e|h'
  ·cases e;simp [wW]
  ·have hk:k∈ks:=(List.of_mem_zip h').1
   have ne:(k==k0)=false:=by
    simp only [beq_eq_false_iff_ne]
    intro e;subst e;exact nd.1 hk
   rw [wW,ne]
   exact EI nd.2 k x h'
end
def eK (P:Program) (W:World) (A:Around) (s:Shared) (u u':Value) (b:Bool):Prop:=∀(E:Aa) (Q:Bool->Shared->Prop),Q b s->wpAny (model P W) A (eqBool u u') Q E s
def cG (P:Program) (W:World) (A:Around) (s:Shared) (u u':Value) (b:Bool):Prop:=∀(E Q:Aa),Q (.bool b) s->wpAny (model P W) A (richCompare .Eq u u') Q E s
section
variable {P:Program}{W:World}{A:Around}{s:Shared}
def eK.of_refs {l b:Addr}{k:Bool}(mw:l≠b) (h:cG P W A s (.ref l) (.ref b) k):eK P W A s (.ref l) (.ref b) k:=λE Q hq=>by
 unfold eqBool
 refine wA (wpAny_ite_split (λeJ=>absurd (by have:=eq_of_beq eJ;injection this) mw) λ_=>?_)
 exact zx (h E _ (gg hq))
theorem Pw {l b:Addr}{its aL:Array Value}{n n2:Nat}{dd lV:Option Addr}{sl lW:Array (Option Value)}{e:Nat->Bool}{E Q:Aa}
  (hl:s.heap.get? l=some { cls:=.type "tuple", dict:=dd,data:=.seq its n,slots:=sl }) (hb:s.heap.get? b=some { cls:=.type "tuple", dict:=lV,data:=.seq aL n2,slots:=lW })
  (he:∀j (h1:j<its.size) (h2:j<aL.size),eK P W A.in1 s its[j] aL[j] (e j)) (h:Q (.bool ((List.range (min its.size aL.size)).all e&&its.size==aL.size)) s) :
  wpAny (model P W) A.in1 (Builtin.«tuple.__eq__» ⟨[.ref l,.ref b],[]⟩) (λfin s'=>∃v,fin=.done (.ret v)/\Q v s') E s:=by
 obtain ⟨hp,g,d,tk,os⟩:=s
 have f2:=AutoSeq1.sub_tuple_tuple
 have hZ:(its.toList.zip aL.toList).length=min its.size aL.size:=by simp
 wp_walk using AutoSeq1.wpAny_loadPart' hl,AutoSeq1.wpAny_loadPart' hb,wpAny_forIn_list _ (λrest b s'=>b.1=none/\s'=⟨hp,g,d,tk,os⟩/\∃i,rest=(its.toList.zip aL.toList).drop i/\Q (.bool (((List.range (min its.size aL.size)).drop i).all e&&its.size==aL.size)) ⟨hp,g,d,tk,os⟩) _
 case turn =>
  rintro ⟨y,x⟩ rest b s' ⟨xI,rfl,i,hz,hR⟩
  have bj:i<(its.toList.zip aL.toList).length:=by
   rcases Nat.lt_or_ge i (its.toList.zip aL.toList).length with h'|h'
   ·exact h'
   ·rw [lS h'] at hz;cases hz
  have hm:i<min its.size aL.size:=hZ▸bj
  have h1:i<its.size:=by omega
  have h2:i<aL.size:=by omega
  rw [wa bj] at hz
  injection hz with kU mM
  have hy:y=its[i]:=by have:=congrArg Prod.fst kU;simpa using this
  have hx:x=aL[i]:=by have:=congrArg Prod.snd kU;simpa using this
  subst hy hx
  have hd:(List.range (min its.size aL.size)).drop i=i::(List.range (min its.size aL.size)).drop (i+1):=by simp [wa,hm]
  rw [hd,List.all_cons] at hR
  refine zx (he i h1 h2 _ _ ?_)
  cases hy:e i with
  | true =>
   rw [hy] at hR
   wp_walk
   exact ⟨rfl,rfl,i+1,mM,by simpa using hR⟩
  | false =>
   rw [hy] at hR
   wp_walk
   exact ⟨_,rfl,by simpa using hR⟩
 case fin =>
  rintro ⟨b1,b2⟩ s' ⟨xI,rfl,i,hz,hR⟩
  simp only at xI
  subst xI
  have Px:min its.size aL.size<=i:=by
   rcases Nat.lt_or_ge i (its.toList.zip aL.toList).length with h'|h'
   ·rw [wa h'] at hz;cases hz
   ·exact hZ▸h'
  rw [lS (by simpa using Px)] at hR
  wp_walk
  exact ⟨_,rfl,by simpa [Builtin.Tuple.tupleCompareSizes] using hR⟩
 case h=>exact ⟨rfl,rfl,0,rfl,by simpa using h⟩
def cG.tuples {l b:Addr}{its aL:Array Value}{e:Nat->Bool}(hl:s.heap.IsTuple l its) (hb:s.heap.IsTuple b aL) (hu:A.units<cLine)
  (he:∀j (h1:j<its.size) (h2:j<aL.size),eK P W A.in1 s its[j] aL[j] (e j)):cG P W A s (.ref l) (.ref b) ((List.range (min its.size aL.size)).all e&&its.size==aL.size):=λE Q h=>by
 obtain ⟨⟨cls,dd,data,sl⟩,ho,hc,n,hd⟩:=id hl
 obtain ⟨⟨uF,lV,data2,lW⟩,ho2,gv,n2,hd2⟩:=id hb
 simp only at hc hd gv hd2
 subst hc hd gv hd2
 refine wpAny_richCompare_same_room (op:=.Eq) ⟨_,ho,rfl⟩ ⟨_,ho2,rfl⟩ F.slot_tuple_eq (j9 F.slot_tuple_eq ⟨_,ho,rfl⟩ F.entry_tuple_eq (Pw (Q:=λv s'=>v ≠ .notImplemented/\Q v s') ho ho2 he (show Value.bool ((List.range (min its.size aL.size)).all e&&its.size==aL.size)≠Value.notImplemented/\Q (.bool ((List.range (min its.size aL.size)).all e&&its.size==aL.size)) s from ⟨(λx=>nomatch x),h⟩)) (F.args_tuple_eq_2 _ _)) hu
end
section
variable {X:Cx}{Er:XK}{K:Frag}{mg:Ab}{ρ:Ae}{pins:Ac}{U:L2.St}{H:Hp}{s:Shared}{st:aa}
def Py {k:Str}{ks:Ad}{v:V}{vs:List V}{us:List (Key×Value)}(h:KV (kz (k::ks) (v::vs)) us):∃u r,us=(Sum.inr k,u)::r/\RelV v u/\KV (kz ks vs) r:=by
 cases h with
 | @cons p q ps qs h t =>
  obtain ⟨h1,h2⟩:=h
  obtain ⟨k',u⟩:=q
  have:k'=Sum.inr k:=h1.symm
  subst this
  exact ⟨u,qs,rfl,h2,t⟩
theorem EJ {f:Str}:∀{ks:Ad}{xs:An}{vs:List V},Rs K mg ρ H xs vs->(ks.zip xs).lookup f=none->(ks.zip vs).lookup f=none
 | [],_,_,_,_=>by simp
 | k::ks,[],_,r,_=>by cases r;simp
 | k::ks,y::xs,_,r,h=>by
  obtain ⟨v,r',rfl,h1,h2⟩:=r
  simp only [List.zip_cons_cons,wW] at h ⊢
  split at h
  ·cases h
  ·exact EJ h2 h
def Pz (I:Inv X pins U H s) {x y:PV}{v w:V}{u u':Value}{b:Bool}{A:Around}(h:eq1 x y=some b) (rx:R X.K mg ρ H x v) (ry:R X.K mg ρ H y w) (rv:RelV v u) (rw:RelV w u') (hu:A.units+100<cLine):SeqAt.EqAt A s u u' b/\SeqAt.RcAt A s u u' b:=by
 unfold eq1 at h
 split at h
 ·rename_i c
  cases h
  have:=sE I 100 x y A c.2.2 c.1 c.2.1 rx ry rv rw (by omega)
  exact ⟨this.1,this.2.1⟩
 ·cases h
def EK {f:PV->PV->Option Bool}{G:Value->Value->Bool->Prop}(hf:∀x y v w u u' b,f x y=some b->R K mg ρ H x v->R K mg ρ H y w->RelV v u->RelV w u'->G u u' b) {xs ys:An}{vs ws:List V}{its aL:Af}{e:Nat->Bool}(h2:Rs K mg ρ H xs vs) (h4:Rs K mg ρ H ys ws) (r1:Vals vs its) (r2:Vals ws aL) (he:∀j x y,xs[j]?=some x->ys[j]?=some y->f x y=some (e j)) :
  ∀j (g1:j<its.toArray.size) (g2:j<aL.toArray.size),G its.toArray[j] aL.toArray[j] (e j):=by
 intro j g1 g2
 have l1:=h2.len
 have l2:=h4.len
 have l3:=r1.length
 have l4:=r2.length
 have k1:j<xs.length:=by rw [l1,l3];simpa using g1
 have k2:j<ys.length:=by rw [l2,l4];simpa using g2
 obtain ⟨v1,e1,v_⟩:=h2.get (yx k1)
 obtain ⟨v2,e2,w_⟩:=h4.get (yx k2)
 obtain ⟨u1,f1,xb⟩:=r1.get e1
 obtain ⟨u2,f2,xc⟩:=r2.get e2
 have w1:its.toArray[j]=u1:=by
  obtain ⟨_,z⟩:=yt.mp f1
  simpa using z
 have w2:aL.toArray[j]=u2:=by
  obtain ⟨_,z⟩:=yt.mp f2
  simpa using z
 rw [w1,w2]
 exact hf xs[j] ys[j] v1 v2 u1 u2 (e j) (he j _ _ (yx k1) (yx k2)) v_ w_ xb xc
end
section
variable {X:Cx}{Er:XK}{K:Frag}{mg:Ab}
theorem dJ:∀{ks:Ad}{us:Af},us.length=ks.length->(∀(j:Nat) v,us[j]?=some v->∃k,ks[j]?=some k/\∃t,v=Value.str k t)->Vals (ks.map V.str) us
 | [],[],_,_=>.nil
 | [],_::_,h,_=>by simp at h
 | _::_,[],h,_=>by simp at h
 | k::ks,u::us,h,hv=>by
  obtain ⟨k',e,t,ev⟩:=hv 0 u rfl
  simp at e
  subst e
  exact .cons ⟨t,ev⟩ (dJ (by simpa using h) λj v e=>by simpa using hv (j+1) v (by simpa using e))
def PB (hc:X.calm=true):bQ X (.type "list") (λxs H Q=>∃p ks vs,xs=[.ref p]/\H p=some (.dK (kz ks vs))/\ks.length=vs.length/\∀l,H l=none->Q (.ref l) (upd H l (.lst (ks.map V.str)))):=by
 intro pins s U H xs us Q I r h
 obtain ⟨p,ks,vs,rfl,hp,hl,q⟩:=h
 obtain ⟨u,rfl,rx⟩:=iu r
 cases rx
 obtain ⟨hz,lo,kv,sS,hd⟩:=ww I.hok (.inl hp)
 obtain ⟨ep,bT⟩:=hd.dictAt
 have lk:kv.length=ks.length:=by rw [<-sS.length];simp [kz,hl]
 have keys:kv.map (·.1)=ks.map Sum.inr:=by
  rw [<-sS.keys]
  simp [kz,hl,List.map_fst_zip]
 refine kdl_call (kdl_dict (knd:=aY X.prog X.w) (kvs:=kv) (ep:=ep) lo) (I.ok.hd hc) bT (by rw [<-sS.length];exact hz) λh' tk uN c' hk hS nL=>?_
 have hv:Vals (ks.map V.str) uN.toList:=dJ (by rw [Array.length_toList,nL.1,lk]) λj v e=>by
  obtain ⟨k,x,e1,e2⟩:=nL.2 j v (by rw [<-Array.getElem?_toList];exact e)
  have e3:(kv.map (·.1))[j]?=some k:=by rw [yM,e1];rfl
  rw [keys,yM] at e3
  cases e4:ks[j]? with
  | none=>rw [e4] at e3;cases e3
  | some k' =>
   rw [e4] at e3
   cases e3
   rcases ib (show eQ (Sum.inr k') v=true from e2) with ⟨i,t,z,_⟩|⟨y,t,z,z'⟩
   ·cases z
   ·cases z;exact ⟨k',rfl,t,z'⟩
 exact ⟨.ref s.heap.objs.size,_,I.laid (t':=tk) hk (ym _) (show aR X.prog X.w _ h' _ (.lst (ks.map V.str)) from ⟨by rw [yI,<-lk,<-sS.length];exact hz,uN.toList,c',hv,by simpa using hS⟩),rfl,q _ I.fresh⟩
def gQ:Al:=λxs st=>match xs with
 | [.ref n]=>match st[n]? with
  | some (.dic ks _)=>.ok (.ref st.length) (st++[.lst (ks.map PV.str)])
  | _=>qf xs st
 | _=>qf xs st
theorem EL {ρ:Ae}{H:Hp}:∀{ks:Ad},Rs K mg ρ H (ks.map PV.str) (ks.map V.str)
 | []=>rfl
 | k::ks=>⟨_,_,rfl,rfl,EL⟩
def PC (hc:X.calm=true):cE X (.type "list") gQ:=by
 obtain ⟨r,h1,h2⟩:=NI (X:=X)
 refine ⟨_,h1.or (PB hc),fun ρ H st xs vs Q E s rx h=>?_⟩
 by_cases hx:∃n ks ys,xs=[.ref n]/\st[n]?=some (.dic ks ys)
 ·obtain ⟨n,ks,ys,rfl,e⟩:=hx
  have h:Out X.K X.mg ρ H (.ok (.ref st.length) (st++[.lst (ks.map PV.str)])) (gV X.K X.mg Q) E:=by
   simpa only [gQ,e] using h
  obtain ⟨v,rfl,rv⟩:=Rs.one rx
  obtain ⟨a,vs,rfl,_,k1,_,k3⟩:=R.refD s rv e
  exact .inr ⟨a,ks,vs,rfl,k1,k3,λl hl=>Out.newList (xs:=ks.map PV.str) h s EL hl⟩
 ·refine .inl (h2 ρ H st xs vs Q E s rx ?_)
  have:gQ xs st=qf xs st:=by
   unfold gQ
   split
   ·rename_i n
    split
    ·rename_i ks ys e;exact absurd ⟨n,ks,ys,rfl,e⟩ hx
    ·rfl
   ·rfl
  rw [this] at h
  exact h
def EM {ss:List Stmt}:e_ X Er ss xn:=de.weak JY λD U H ⟨env,st,ρ,re,rs,h⟩=>h
end
section
variable {P:Program}{W:World}{A:Around}{s:Shared}{E:Aa}{K:Type} [DecidableEq K] {knd:KeyKind P W K}
def oE {d:Addr} {kv:List (K×Value)} {x:Value} {T:String} {name:Str} (sl:Slot "dict" name "dict.__eq__") (hd:s.heap.DictOf knd d kv) (hx:s.TypeIs x T) (hs:isSubtype (.type T) (.type "dict")=pure false) (Q:Aa) (h:Q .notImplemented s) :
  wpAny (model P W) A (call (.builtin "dict.__eq__") [.ref d,x]) Q E s:=by
 refine j9 sl hd.typeIs PySem.F.entry_dict_eq ?_ (PySem.F.args_dict_eq_2 _ _)
 show wpAny _ _ (Builtin.Dict.dictSlotArgs "__eq__" ⟨[.ref d,x],[]⟩ >>= _) _ _ s
 refine zx ?_
 unfold Builtin.Dict.dictSlotArgs
 refine zx (wpAny_notOrdered_dict hd.typeIs ?_)
 show wpAny _ _ (pure (Value.ref d,x)) _ _ s
 refine zZ ?_
 refine zx (wpAny_isInstance hx hs ?_)
 simp only [Bool.not_false,ia]
 exact zx (lR (zZ ⟨_,rfl,h⟩))
def EN {d:Addr} {o:Obj} {b:Int} {u:Tok} {name:Str} (sl:Slot "int" name "int.__eq__") (ho:s.heap.get? d=some o) (hd:o.cls=.type "dict") {es:Array DictEntry} {ep:Nat} (hq':o.data=.dict es ep) (Q:Aa) (h:Q .notImplemented s) :
  wpAny (model P W) A (call (.builtin "int.__eq__") [.int b u,.ref d]) Q E s:=by
 refine j9 sl (typeIs_int s b u) PySem.F.entry_int_eq ?_ (PySem.F.args_int_eq_2 _ _)
 obtain ⟨hp,g,dd,tk,os⟩:=s
 obtain ⟨c,d1,d2,d3⟩:=o
 cases hd
 cases hq'
 wp_walk using AutoSeq1.wpAny_loadPart' ho,wpAny_load ho
 exact ⟨_,rfl,h⟩
def EO {d:Addr} {o:Obj} {b:Str} {u:Tok} {name:Str} (sl:Slot "str" name "str.__eq__") (ho:s.heap.get? d=some o) (hd:o.cls=.type "dict") {es:Array DictEntry} {ep:Nat} (hq':o.data=.dict es ep) (Q:Aa) (h:Q .notImplemented s) :
  wpAny (model P W) A (call (.builtin "str.__eq__") [.str b u,.ref d]) Q E s:=by
 refine j9 sl (typeIs_str s b u) PySem.F.entry_str_eq ?_ (PySem.F.args_str_eq_2 _ _)
 obtain ⟨hp,g,dd,tk,os⟩:=s
 obtain ⟨c,d1,d2,d3⟩:=o
 cases hd
 cases hq'
 wp_walk using AutoSeq1.wpAny_loadPart' ho,wpAny_load ho
 exact ⟨_,rfl,h⟩
def ER {d t:Addr} {o ot:Obj} {its:Array Value} {n:Nat} {name:Str} (sl:Slot "tuple" name "tuple.__eq__") (ht:s.heap.get? t=some ot) (hc:ot.cls=.type "tuple") (hq:ot.data=.seq its n) (ho:s.heap.get? d=some o) (hd:o.cls=.type "dict") {es:Array DictEntry} {ep:Nat} (hq':o.data=.dict es ep) (Q:Aa) (h:Q .notImplemented s) :
  wpAny (model P W) A (call (.builtin "tuple.__eq__") [.ref t,.ref d]) Q E s:=by
 refine j9 sl ⟨_,ht,hc⟩ PySem.F.entry_tuple_eq ?_ (PySem.F.args_tuple_eq_2 _ _)
 obtain ⟨hp,g,dd,tk,os⟩:=s
 obtain ⟨c,d1,d2,d3⟩:=o
 obtain ⟨c',We,Wf,Wg⟩:=ot
 cases hd
 cases hq'
 cases hc
 cases hq
 have f1:=PySem.F.sub_dict_tuple
 wp_walk using AutoSeq1.wpAny_loadPart' ht,AutoSeq1.wpAny_loadPart' ho
 exact ⟨_,rfl,h⟩
def eK.of_ref {d:Addr}{u':Value}{k:Bool}(mw:Value.ref d≠u') (h:cG P W A s (.ref d) u' k):eK P W A s (.ref d) u' k:=λE Q hq=>by
 unfold eqBool
 refine wA (wpAny_ite_split (λeJ=>absurd (eq_of_beq eJ) mw) λ_=>?_)
 exact zx (h E _ (gg hq))
def eK.of_num {d:Addr}{b:Int}{u:Tok}{k:Bool}(h:cG P W A s (.int b u) (.ref d) k):eK P W A s (.int b u) (.ref d) k:=λE Q hq=>by
 unfold eqBool
 refine wA (wpAny_ite_split (λeJ=>absurd (eq_of_beq eJ) nofun) λ_=>?_)
 exact zx (h E _ (gg hq))
def eK.of_txt {d:Addr}{b:Str}{u:Tok}{k:Bool}(h:cG P W A s (.str b u) (.ref d) k):eK P W A s (.str b u) (.ref d) k:=λE Q hq=>by
 unfold eqBool
 refine wA (wpAny_ite_split (λeJ=>absurd (eq_of_beq eJ) nofun) λ_=>?_)
 exact zx (h E _ (gg hq))
def cG.rec_num {d:Addr}{kv:List (K×Value)}(hd:s.heap.DictOf knd d kv) (b:Int) (u:Tok) (hu:A.units<cLine):cG P W A s (.ref d) (.int b u) false:=λE Q h=>by
 obtain ⟨o,es,ep,ho,hx,gR,_⟩:=id hd
 have ty:=hd.typeIs
 obtain ⟨o',ho',hc⟩:=id ty
 rw [ho] at ho'
 cases ho'
 exact SeqAt.rc_eq_decline_or (k:=false) ty (typeIs_int s b u) (by decide) PySem.F.sub_int_dict PySem.F.slot_dict_eq PySem.F.slot_int_eq_refl (oE PySem.F.slot_dict_eq hd (typeIs_int s b u) PySem.F.sub_int_dict) (EN PySem.F.slot_int_eq_refl ho hc gR)
  (λ_ hq=>wpAny_of_eq (rfl:isSame (.ref d) (.int b u)=pure false) hq) (.inr hu) h
def cG.num_rec {d:Addr}{kv:List (K×Value)}(hd:s.heap.DictOf knd d kv) (b:Int) (u:Tok) (hu:A.units<cLine):cG P W A s (.int b u) (.ref d) false:=λE Q h=>by
 obtain ⟨o,es,ep,ho,hx,gR,_⟩:=id hd
 have ty:=hd.typeIs
 obtain ⟨o',ho',hc⟩:=id ty
 rw [ho] at ho'
 cases ho'
 exact SeqAt.rc_eq_decline_or (k:=false) (typeIs_int s b u) ty (by decide) PySem.F.sub_dict_int PySem.F.slot_int_eq PySem.F.slot_dict_eq_refl (EN PySem.F.slot_int_eq ho hc gR) (oE PySem.F.slot_dict_eq_refl hd (typeIs_int s b u) PySem.F.sub_int_dict)
  (λ_ hq=>wpAny_of_eq (rfl:isSame (.int b u) (.ref d)=pure false) hq) (.inr hu) h
def cG.rec_txt {d:Addr}{kv:List (K×Value)}(hd:s.heap.DictOf knd d kv) (b:Str) (u:Tok) (hu:A.units<cLine):cG P W A s (.ref d) (.str b u) false:=λE Q h=>by
 obtain ⟨o,es,ep,ho,hx,gR,_⟩:=id hd
 have ty:=hd.typeIs
 obtain ⟨o',ho',hc⟩:=id ty
 rw [ho] at ho'
 cases ho'
 exact SeqAt.rc_eq_decline_or (k:=false) ty (typeIs_str s b u) (by decide) PySem.F.sub_str_dict PySem.F.slot_dict_eq PySem.F.slot_str_eq_refl (oE PySem.F.slot_dict_eq hd (typeIs_str s b u) PySem.F.sub_str_dict) (EO PySem.F.slot_str_eq_refl ho hc gR)
  (λ_ hq=>wpAny_of_eq (rfl:isSame (.ref d) (.str b u)=pure false) hq) (.inr hu) h
def cG.txt_rec {d:Addr}{kv:List (K×Value)}(hd:s.heap.DictOf knd d kv) (b:Str) (u:Tok) (hu:A.units<cLine):cG P W A s (.str b u) (.ref d) false:=λE Q h=>by
 obtain ⟨o,es,ep,ho,hx,gR,_⟩:=id hd
 have ty:=hd.typeIs
 obtain ⟨o',ho',hc⟩:=id ty
 rw [ho] at ho'
 cases ho'
 exact SeqAt.rc_eq_decline_or (k:=false) (typeIs_str s b u) ty (by decide) PySem.F.sub_dict_str PySem.F.slot_str_eq PySem.F.slot_dict_eq_refl (EO PySem.F.slot_str_eq ho hc gR) (oE PySem.F.slot_dict_eq_refl hd (typeIs_str s b u) PySem.F.sub_str_dict)
  (λ_ hq=>wpAny_of_eq (rfl:isSame (.str b u) (.ref d)=pure false) hq) (.inr hu) h
def oF {d t:Addr}{kv:List (K×Value)}{its:Array Value}(hd:s.heap.DictOf knd d kv) (ht:s.heap.IsTuple t its):d≠t:=λe=>by
 subst e
 obtain ⟨o,ho,hc⟩:=hd.typeIs
 obtain ⟨o2,ho2,gv,_⟩:=ht
 rw [ho] at ho2
 cases ho2
 rw [hc] at gv
 exact absurd gv (by simp)
def cG.rec_row {d t:Addr}{kv:List (K×Value)}{its:Array Value}(hd:s.heap.DictOf knd d kv) (ht:s.heap.IsTuple t its) (hu:A.units<cLine):cG P W A s (.ref d) (.ref t) false:=λE Q h=>by
 have ne:=oF hd ht
 obtain ⟨o,es,ep,ho,hx,gR,_⟩:=id hd
 have ty:=hd.typeIs
 obtain ⟨o',ho',hc⟩:=id ty
 rw [ho] at ho'
 cases ho'
 obtain ⟨ot,kr,mN,n,qx⟩:=id ht
 exact SeqAt.rc_eq_decline_or (k:=false) ty ⟨_,kr,mN⟩ (by decide) PySem.F.sub_tuple_dict PySem.F.slot_dict_eq PySem.F.slot_tuple_eq_refl (oE PySem.F.slot_dict_eq hd ⟨_,kr,mN⟩ PySem.F.sub_tuple_dict) (ER PySem.F.slot_tuple_eq_refl kr mN qx ho hc gR)
  (λ_ hq=>wpAny_isSame_ref_other ne ho kr (by rw [hc];simp) hq) (.inr hu) h
def cG.row_rec {d t:Addr}{kv:List (K×Value)}{its:Array Value}(hd:s.heap.DictOf knd d kv) (ht:s.heap.IsTuple t its) (hu:A.units<cLine):cG P W A s (.ref t) (.ref d) false:=λE Q h=>by
 have ne:=oF hd ht
 obtain ⟨o,es,ep,ho,hx,gR,_⟩:=id hd
 have ty:=hd.typeIs
 obtain ⟨o',ho',hc⟩:=id ty
 rw [ho] at ho'
 cases ho'
 obtain ⟨ot,kr,mN,n,qx⟩:=id ht
 exact SeqAt.rc_eq_decline_or (k:=false) ⟨_,kr,mN⟩ ty (by decide) PySem.F.sub_dict_tuple PySem.F.slot_tuple_eq PySem.F.slot_dict_eq_refl (ER PySem.F.slot_tuple_eq kr mN qx ho hc gR) (oE PySem.F.slot_dict_eq_refl hd ⟨_,kr,mN⟩ PySem.F.sub_tuple_dict)
  (λ_ hq=>SeqAt.wpAny_isSame_ref_other' ne.symm kr ho (by rw [hc];simp) hq) (.inr hu) h
inductive cU (P:Program) (W:World) (A:Around) (s:Shared) (kb:List (K×Value)):List (K×Value)->Bool->Prop
 | nil:cU P W A s kb [] true
 | miss {k:K} {v:Value} {r:List (K×Value)} (h:valueAt kb k=none):cU P W A s kb ((k,v)::r) false
 | hit {k:K} {v y:Value} {r:List (K×Value)} {e b:Bool} (h:valueAt kb k=some y) (he:eK P W A s v y e) (hr:cU P W A s kb r b):cU P W A s kb ((k,v)::r) (e&&b)
def cU.inv {kb r:List (K×Value)}{k:K}{v:Value}{b:Bool}(h:cU P W A s kb ((k,v)::r) b):(valueAt kb k=none/\b=false)\/∃y e c,valueAt kb k=some y/\eK P W A s v y e/\cU P W A s kb r c/\b=(e&&c):=by
 cases h with
 | miss h=>exact .inl ⟨h,rfl⟩
 | hit h he hr=>exact .inr ⟨_,_,_,h,he,hr,rfl⟩
theorem sT {nm:String}{a b:Addr}{ka kb:List (K×Value)}{r:Bool}{Q:Bool->Shared->Prop}(la:(a==sysModules)=false) (lb:(b==sysModules)=false) (da:s.heap.DictOf knd a ka) (db:s.heap.DictOf knd b kb)
  (hits:ka.length=kb.length->cU P W A s kb ka r) (h:Q (ka.length==kb.length&&r) s):wpAny (model P W) A (Builtin.Dict.samePairs nm a b) Q E s:=by
 obtain ⟨oa,ea,na,ga,_,qa,ha,pa,_⟩:=da
 obtain ⟨ob,eb,nb,gb,_,qb,hb,pb,_⟩:=db
 have za:ka.length=ea.size:=by rw [<-pa.length];exact Array.length_toList
 have zb:kb.length=eb.size:=by rw [<-pb.length];exact Array.length_toList
 have look:∀k,findBy knd.is eb k=valueAt kb k:=λk=>by
  rw [<-pb.find k]
  clear zb pb hb qb gb
  obtain ⟨l⟩:=eb
  simp [findBy]
 rw [za,zb] at h
 unfold Builtin.Dict.samePairs Builtin.Dict.showsAll
 rw [zP (by rw [la];decide),zP (by rw [lb];decide)]
 refine zx (zZ (zx (zZ (zx (wpAny_dictEntries ga qa ?_)))))
 dsimp only
 refine zx (wpAny_dictEntries gb qb ?_)
 by_cases hz:ea.size=eb.size
 ·have h':Q r s:=by simpa [hz] using h
  have hh:=hits (by rw [za,zb];exact hz)
  rw [zP (by rw [hz];simp)]
  refine zx (wpAny_dictEpoch ga qa (zx ?_))
  rw [Std.Legacy.Range.forIn_eq_forIn_range']
  simp only [Std.Legacy.Range.size,Nat.sub_zero,Nat.add_sub_cancel,Nat.div_one]
  refine wpAny_forIn_list _ (λrest q s'=>s'=s/\q=(none,())/\∃i,rest=List.range' i (ea.size-i)/\i<=ea.size/\cU P W A s kb (ka.drop i) r) _ ?_ ?_ _ _ ⟨rfl,rfl,0,by simp,jB _,hh⟩
  ·rintro x rest q s' ⟨rfl,rfl,i,hr,hi,hp⟩
   have lt:i<ea.size:=by
    rcases Nat.lt_or_ge i ea.size with c|c
    ·exact c
    ·rw [Nat.sub_eq_zero_of_le c] at hr;simp at hr
   have e0:ea.size-i=(ea.size-(i+1))+1:=by omega
   rw [e0,List.range'_succ] at hr
   injection hr with hx mM
   subst hx
   refine zx (wpAny_dictEntries ga qa ?_)
   rw [Array.getElem?_eq_getElem lt]
   have lt':x<ka.length:=by rw [za];exact lt
   obtain ⟨k,v,ES⟩:∃k v,ka[x]=(k,v):=⟨_,_,rfl⟩
   have xJ:ka.drop x=(k,v)::ka.drop (x+1):=by rw [<-ES];exact wa lt'
   obtain ⟨nG,ET⟩:=pa.get? (i:=x) (e:=ea[x]) (k:=k) (v:=v) (by rw [Array.getElem?_toList];exact Array.getElem?_eq_getElem lt) (by rw [yx lt',ES])
   obtain ⟨k',lA,hs⟩:=ha ea[x] (Array.getElem_mem lt)
   rw [knd.inj _ _ _ lA nG] at hs
   rw [xJ] at hp
   show wpAny _ _ (holding [ea[x].key,ea[x].val] _ >>= _) _ _ _
   rw [hs]
   refine zx (wA (zx (wpAny_dictFind_of nG gb qb hb ?_)))
   cases hj:eb.findIdx? λe=>knd.is k e.key with
   | none =>
    have hn:valueAt kb k=none:=by rw [<-look k,findBy_of_findIdx?,hj]
    rcases hp.inv with ⟨_,er⟩|⟨y,_,_,hy,_⟩
    ·rw [er] at h'
     refine zZ ?_
     show wpAny _ _ (if (!false)=true then _ else _) _ _ _
     rw [zF (by decide)]
     exact zZ (zZ h')
    ·rw [hn] at hy;exact nomatch hy
   | some j =>
    obtain ⟨jl,_,_⟩:=Array.findIdx?_eq_some_iff_getElem.mp hj
    have rO:valueAt kb k=some eb[j].val:=by
     rw [<-look k,findBy_of_findIdx?,hj]
     simp [Array.getElem?_eq_getElem jl]
    refine zx (wpAny_dictEntries gb qb ?_)
    rw [Array.getElem?_eq_getElem jl]
    rcases hp.inv with ⟨hn,_⟩|⟨y,e,c,hy,he,EU,er⟩
    ·rw [rO] at hn;exact nomatch hn
    ·have ey:eb[j].val=y:=Option.some.inj (rO.symm.trans hy)
     rw [<-ey,<-ET] at he
     refine wA (he _ _ ?_)
     cases e with
     | false =>
      rw [er,Bool.false_and] at h'
      show wpAny _ _ (if (!false)=true then _ else _) _ _ _
      rw [zF (by decide)]
      exact zZ (zZ h')
     | true =>
      rw [Bool.true_and] at er
      rw [<-er] at EU
      show wpAny _ _ (if (!true)=true then _ else _) _ _ _
      rw [zP (by decide)]
      refine zx (wpAny_dictEpoch ga qa ?_)
      rw [zP (by simp)]
      exact zZ ⟨rfl,rfl,x+1,mM,lt,EU⟩
  ·rintro q s' ⟨rfl,rfl,i,hr,hi,hp⟩
   have sU:i=ea.size:=by
    rcases Nat.lt_or_ge i ea.size with c|c
    ·have e:ea.size-i=(ea.size-(i+1))+1:=by omega
     rw [e,List.range'_succ] at hr;exact nomatch hr
    ·omega
   refine zZ ?_
   rw [sU,<-za,List.drop_length] at hp
   cases hp
   exact h'
 ·rw [zF (by simpa using hz)]
  have hf:(ea.size==eb.size)=false:=by simpa using hz
  rw [hf,Bool.false_and] at h
  exact zx (lR (zZ h))
def cG.recs {a b:Addr}{ka kb:List (K×Value)}{r:Bool}(la:(a==sysModules)=false) (lb:(b==sysModules)=false) (da:s.heap.DictOf knd a ka) (db:s.heap.DictOf knd b kb) (hu:A.units<cLine)
  (hits:ka.length=kb.length->cU P W A.in1 s kb ka r):cG P W A s (.ref a) (.ref b) (ka.length==kb.length&&r):=λE Q h=>by
 refine wpAny_richCompare_same_room (op:=.Eq) da.typeIs db.typeIs PySem.F.slot_dict_eq (j9 PySem.F.slot_dict_eq da.typeIs PySem.F.entry_dict_eq ?_ (PySem.F.args_dict_eq_2 _ _)) hu
 show wpAny _ _ (Builtin.Dict.dictSlotArgs "__eq__" ⟨[.ref a,.ref b],[]⟩ >>= _) _ _ s
 refine zx ?_
 unfold Builtin.Dict.dictSlotArgs
 refine zx (wpAny_notOrdered_dict da.typeIs ?_)
 show wpAny _ _ (pure (Value.ref a,Value.ref b)) _ _ s
 refine zZ (zx (wpAny_isInstance (T := "dict") db.typeIs PySem.F.sub_dict_dict ?_))
 simp only [Bool.not_true,Bool.false_eq_true,if_false]
 refine zx (zZ (zx (zZ (zx (sT la lb da db hits ?_)))))
 refine zZ ⟨_,rfl,(λx=>nomatch x),?_⟩
 simpa using h
end
section
variable {P:Program}{W:World}
end
def xK:Option SO->Bool
 | some (.dic _ _)=>true
 | _=>false
def fP (st:aa):PV->Option Nat
 | .int _=>some 0
 | .str _=>some 1
 | .tup _=>some 2
 | .ref a=>if xK st[a]?=true then some 3 else none
 | _=>none
def nM (f:PV->PV->Option Bool):Option SO->Option SO->Option Bool
 | some (.dic ks xs),some (.dic bO c9)=>if ks.Nodup/\ks.length=xs.length then if ks.length=bO.length then dN f bO c9 ks xs else some false else none
 | _,_=>none
def xM:Option Nat->Option Nat->Option Bool
 | some i,some j=>if i=j then none else some false
 | _,_=>none
def eqT (st:aa):Nat->PV->PV->Option Bool
 | 0,_,_=>none
 | n+1,x,y=>match x,y with
  | .int a,.int b=>some (a==b)
  | .str a,.str b=>some (a==b)
  | .tup xs,.tup ys=>cY (eqT st n) xs ys
  | .ref a,.ref b=>nM (eqT st n) st[a]? st[b]?
  | x,y=>xM (fP st x) (fP st y)
section
variable {X:Cx}{Er:XK}{K:Frag}{mg:Ab}{ρ:Ae}{pins:Ac}{U:L2.St}{H:Hp}{s:Shared}{st:aa}
inductive Kn (K:Frag) (mg:Ab) (ρ:Ae) (H:Hp) (st:aa):PV->V->Nat->Prop
 | num (i:Int):Kn K mg ρ H st (.int i) (.int i) 0
 | txt (z:Str):Kn K mg ρ H st (.str z) (.str z) 1
 | row {xs:An} {a:Addr} {vs:List V} (h:aW K H a vs) (r:Rs K mg ρ H xs vs):Kn K mg ρ H st (.tup xs) (.ref a) 2
 | rec_ {n:Nat} {a:Addr} {ks:Ad} {xs:An} {vs:List V} (e:st[n]?=some (.dic ks xs)) (ha:ρ[n]?=some a) (h:H a=some (.dK (kz ks vs))) (r:Rs K mg ρ H xs vs) (l:ks.length=vs.length):Kn K mg ρ H st (.ref n) (.ref a) 3
def Kn.of (S:aX K mg ρ H st) {x:PV}{v:V}{i:Nat}(r:R K mg ρ H x v) (h:fP st x=some i):Kn K mg ρ H st x v i:=by
 cases x with
 | int j=>cases h;cases r;exact .num j
 | str z=>cases h;cases r;exact .txt z
 | tup xs=>cases h;obtain ⟨a,vs,rfl,h1,h2⟩:=r;exact .row h1 h2
 | ref n =>
  simp only [fP] at h
  split at h
  ·rename_i hd
   cases h
   cases e:st[n]? with
   | none=>rw [e] at hd;cases hd
   | some so =>
    cases so with
    | dic ks xs =>
     obtain ⟨a,vs,rfl,ha,k1,k2,k3⟩:=R.refD S r e
     exact .rec_ e ha k1 k2 k3
    | lst _=>rw [e] at hd;cases hd
    | ins _ _ _=>rw [e] at hd;cases hd
    | fdi _ _=>rw [e] at hd;cases hd
    | dit _ _=>rw [e] at hd;cases hd
  ·cases h
 | _=>cases h
def PD (I:Inv X pins U H s) {x y:PV}{v:V}{i j:Nat}(hx:Kn X.K mg ρ H st x v i) (hy:Kn X.K mg ρ H st y v j):i=j:=by
 cases hx with
 | num=>cases hy;rfl
 | txt=>cases hy;rfl
 | row h1 r1 =>
  cases hy with
  | row=>rfl
  | rec_ e ha h2 =>
   obtain ⟨_,_,kv,_,d⟩:=ww I.hok (.inl h2)
   obtain ⟨its,_,p,_⟩:=I.tuple h1
   exact absurd rfl (oF d p)
 | rec_ e ha h2 =>
  cases hy with
  | rec_=>rfl
  | row h1 r1 =>
   obtain ⟨_,_,kv,_,d⟩:=ww I.hok (.inl h2)
   obtain ⟨its,_,p,_⟩:=I.tuple h1
   exact absurd rfl (oF d p)
def PF (I:Inv X pins U H s) {x y:PV}{v w:V}{u u':Value}{i j:Nat}{A:Around}(hx:Kn X.K mg ρ H st x v i) (hy:Kn X.K mg ρ H st y w j) (rv:RelV v u) (rw:RelV w u') (cq:i≠j) (hu:A.units<cLine):eK X.prog X.w A s u u' false/\cG X.prog X.w A s u u' false:=by
 cases hx with
 | num a =>
  obtain ⟨t,rfl⟩:=rv
  cases hy with
  | num=>exact absurd rfl cq
  | txt b=>obtain ⟨t',rfl⟩:=rw;exact ⟨λE Q q=>SeqAt.EqAt.int_str a t b t' _ _ E Q q,λE Q q=>SeqAt.RcAt.int_str a t b t' _ _ E Q q⟩
  | row h1 r1 =>
   cases rw
   obtain ⟨its,_,p,_⟩:=I.tuple h1
   exact ⟨λE Q q=>SeqAt.EqAt.int_tuple a t p hu _ _ E Q q,λE Q q=>SeqAt.RcAt.int_tuple a t p hu _ _ E Q q⟩
  | rec_ e ha h2 =>
   cases rw
   obtain ⟨_,_,kv,_,d⟩:=ww I.hok (.inl h2)
   exact ⟨.of_num (.num_rec d a t hu),.num_rec d a t hu⟩
 | txt a =>
  obtain ⟨t,rfl⟩:=rv
  cases hy with
  | txt=>exact absurd rfl cq
  | num b=>obtain ⟨t',rfl⟩:=rw;exact ⟨λE Q q=>SeqAt.EqAt.str_int a t b t' _ _ E Q q,λE Q q=>SeqAt.RcAt.str_int a t b t' _ _ E Q q⟩
  | row h1 r1 =>
   cases rw
   obtain ⟨its,_,p,_⟩:=I.tuple h1
   exact ⟨λE Q q=>SeqAt.EqAt.str_tuple a t p hu _ _ E Q q,λE Q q=>SeqAt.RcAt.str_tuple a t p hu _ _ E Q q⟩
  | rec_ e ha h2 =>
   cases rw
   obtain ⟨_,_,kv,_,d⟩:=ww I.hok (.inl h2)
   exact ⟨.of_txt (.txt_rec d a t hu),.txt_rec d a t hu⟩
 | row h0 r0 =>
  cases rv
  obtain ⟨its,_,p,_⟩:=I.tuple h0
  cases hy with
  | row=>exact absurd rfl cq
  | num b=>obtain ⟨t',rfl⟩:=rw;exact ⟨λE Q q=>SeqAt.EqAt.tuple_int b t' p hu _ _ E Q q,λE Q q=>SeqAt.RcAt.tuple_int b t' p hu _ _ E Q q⟩
  | txt b=>obtain ⟨t',rfl⟩:=rw;exact ⟨λE Q q=>SeqAt.EqAt.tuple_str b t' p hu _ _ E Q q,λE Q q=>SeqAt.RcAt.tuple_str b t' p hu _ _ E Q q⟩
  | rec_ e ha h2 =>
   cases rw
   obtain ⟨_,_,kv,_,d⟩:=ww I.hok (.inl h2)
   have ne:=oF d p
   exact ⟨.of_ref (λz=>ne (by injection z with z;exact z.symm)) (.row_rec d p hu),.row_rec d p hu⟩
 | rec_ e0 Wh h0 =>
  cases rv
  obtain ⟨_,_,kv,_,d⟩:=ww I.hok (.inl h0)
  cases hy with
  | rec_=>exact absurd rfl cq
  | num b=>obtain ⟨t',rfl⟩:=rw;exact ⟨.of_ref nofun (.rec_num d b t' hu),.rec_num d b t' hu⟩
  | txt b=>obtain ⟨t',rfl⟩:=rw;exact ⟨.of_ref nofun (.rec_txt d b t' hu),.rec_txt d b t' hu⟩
  | row h1 r1 =>
   cases rw
   obtain ⟨its,_,p,_⟩:=I.tuple h1
   have ne:=oF d p
   exact ⟨.of_ref (λz=>ne (by injection z)) (.rec_row d p hu),.rec_row d p hu⟩
def PH {a b:Option Nat}{k:Bool}(h:xM a b=some k):∃i j,a=some i/\b=some j/\i≠j/\k=false:=by
 unfold xM at h
 split at h
 ·split at h
  ·cases h
  ·rename_i i j c;cases h;exact ⟨i,j,rfl,rfl,c,rfl⟩
 ·cases h
inductive oG (st:aa) (f:PV->PV->Option Bool):PV->PV->Bool->Prop
 | num (a b:Int):oG st f (.int a) (.int b) (a==b)
 | txt (a b:Str):oG st f (.str a) (.str b) (a==b)
 | row {xs ys:An} {k:Bool} (h:cY f xs ys=some k):oG st f (.tup xs) (.tup ys) k
 | rec_ {a b:Nat} {k:Bool} (h:nM f st[a]? st[b]?=some k):oG st f (.ref a) (.ref b) k
 | apart {x y:PV} {i j:Nat} (hx:fP st x=some i) (hy:fP st y=some j) (h:i≠j):oG st f x y false
def ziM {n:Nat}{x y:PV}{k:Bool}(h:eqT st (n+1) x y=some k):oG st (eqT st n) x y k:=by
 unfold eqT at h
 split at h
 ·cases h;exact .num _ _
 ·cases h;exact .txt _ _
 ·exact .row h
 ·exact .rec_ h
 ·obtain ⟨i,j,h1,h2,h3,rfl⟩:=PH h
  exact .apart h1 h2 h3
def EV {f:PV->PV->Option Bool}{a b:Option SO}{k:Bool}(h:nM f a b=some k):∃ks xs bO c9,a=some (.dic ks xs)/\b=some (.dic bO c9)/\ks.Nodup/\ks.length=xs.length/\((ks.length=bO.length/\dN f bO c9 ks xs=some k)\/(ks.length≠bO.length/\k=false)):=by
 unfold nM at h
 split at h
 ·rename_i ks xs bO c9
  split at h
  ·rename_i c
   split at h
   ·rename_i c';exact ⟨_,_,_,_,rfl,rfl,c.1,c.2,.inl ⟨c',h⟩⟩
   ·rename_i c';cases h;exact ⟨_,_,_,_,rfl,rfl,c.1,c.2,.inr ⟨c',rfl⟩⟩
  ·cases h
 ·cases h
def EW (I:Inv X pins U H s) (S:aX X.K mg ρ H st):∀(n:Nat) (x y:PV) (v:V) (b:Bool),eqT st n x y=some b->R X.K mg ρ H x v->R X.K mg ρ H y v->b=true:=by
 intro n
 induction n with
 | zero=>intro x y v b h;cases h
 | succ n ih =>
  intro x y v b h rx ry
  cases ziM h with
  | num a c=>cases rx;cases ry;simp
  | txt a c=>cases rx;cases ry;simp
  | row h0 =>
   obtain ⟨a,vs,rfl,h1,h2⟩:=rx
   obtain ⟨a',ws,e,h3,h4⟩:=ry
   cases e
   have:=I.tuple_inj h1 h3
   subst this
   exact EG (λx y v b=>ih x y v b) h0 h2 h4
  | @rec_ i j _ h0 =>
   obtain ⟨a,rfl,h1⟩:=rx
   obtain ⟨a',e,h2⟩:=ry
   cases e
   obtain rfl:=Pu S.nd h1 h2
   obtain ⟨ks,xs,bO,c9,e1,e2,nd,hl,hc⟩:=EV h0
   rw [e1] at e2
   cases e2
   obtain ⟨vs,_,k2,_⟩:=S.addr e1 h1
   rcases hc with ⟨_,hc⟩|⟨hc,_⟩
   ·exact EH (λx v b e r=>ih x x v b e r r) (EI nd) hc k2
   ·exact absurd rfl hc
  | apart hx hy cq=>exact absurd (PD I (Kn.of S rx hx) (Kn.of S ry hy)) cq
theorem EX {A:Around}{f:PV->PV->Option Bool}(hf:∀x y v w u u' b,f x y=some b->R K mg ρ H x v->R K mg ρ H y w->RelV v u->RelV w u'->eK X.prog X.w A s u u' b) {bO:Ad}{c9:An}{ws:List V}{kb:List (Key×Value)}(r':Rs K mg ρ H c9 ws) (EY:KV (kz bO ws) kb) :
  ∀{ks:Ad} {xs:An} {vs:List V} {ka:List (Key×Value)} {b:Bool},ks.length=vs.length->Rs K mg ρ H xs vs->KV (kz ks vs) ka->dN f bO c9 ks xs=some b->cU X.prog X.w A s kb ka b
 | [],xs,[],ka,b,_,_,kv,h=>by
  have:b=true:=by cases xs<;>(cases h;rfl)
  subst this
  cases kv
  exact .nil
 | [],xs,_::_,ka,b,hl,_,_,_=>by simp at hl
 | k::ks,xs,[],ka,b,hl,_,_,_=>by simp at hl
 | k::ks,xs,v::vs,ka,b,hl,r,kv,h=>by
  obtain ⟨u,Wi,rfl,ru,PJ⟩:=Py kv
  cases xs with
  | nil=>cases r
  | cons x xs =>
   obtain ⟨v',Wj,e,r1,r2⟩:=r
   cases e
   simp only [dN] at h
   have hv:=EY.val (Sum.inr k)
   rw [xr] at hv
   cases hl2:(bO.zip c9).lookup k with
   | none =>
    rw [hl2] at h
    cases h
    rw [EJ r' hl2] at hv
    cases hu:valueAt kb (Sum.inr k) with
    | none=>exact .miss hu
    | some _=>rw [hu] at hv;exact (show False from hv).elim
   | some y =>
    rw [hl2] at h
    simp only at h
    cases h1:f x y with
    | none=>rw [h1] at h;cases h
    | some a =>
     cases h2:dN f bO c9 ks xs with
     | none=>rw [h1,h2] at h;cases h
     | some c =>
      rw [h1,h2] at h
      cases h
      obtain ⟨w,hw,dy⟩:=ow r' hl2
      rw [hw] at hv
      cases hu:valueAt kb (Sum.inr k) with
      | none=>rw [hu] at hv;exact (show False from hv).elim
      | some u' =>
       rw [hu] at hv
       exact .hit hu (hf x y v w u u' a h1 r1 dy ru hv) (EX hf r' EY (by simpa using hl) r2 PJ h2)
theorem PK (I:Inv X pins U H s) (S:aX X.K mg ρ H st):∀(n:Nat) (x y:PV) (v w:V) (u u':Value) (b:Bool) (A:Around),eqT st n x y=some b->R X.K mg ρ H x v->R X.K mg ρ H y w->RelV v u->RelV w u'->A.units+n<cLine ->
  eK X.prog X.w A s u u' b/\cG X.prog X.w A s u u' b:=by
 intro n
 induction n with
 | zero=>intro x y v w u u' b A h;cases h
 | succ n ih =>
  intro x y v w u u' b A h rx ry rv rw hu
  cases ziM h with
  | num a c=>cases rx;cases ry;obtain ⟨t,rfl⟩:=rv;obtain ⟨t',rfl⟩:=rw;exact ⟨λE Q q=>SeqAt.EqAt.int_int a t c t' _ _ E Q q,λE Q q=>SeqAt.RcAt.int_int a t c t' _ _ E Q q⟩
  | txt a c=>cases rx;cases ry;obtain ⟨t,rfl⟩:=rv;obtain ⟨t',rfl⟩:=rw;exact ⟨λE Q q=>SeqAt.EqAt.str_str a t c t' _ _ E Q q,λE Q q=>SeqAt.RcAt.str_str a t c t' _ _ E Q q⟩
  | row h0 =>
   obtain ⟨a,vs,rfl,h1,h2⟩:=id rx
   obtain ⟨a',ws,rfl,h3,h4⟩:=id ry
   cases rv
   cases rw
   obtain ⟨its,r1,p1,_⟩:=I.tuple h1
   obtain ⟨aL,r2,p2,_⟩:=I.tuple h3
   obtain ⟨e,he,hb⟩:=xG h0
   have it:=EK (G:=eK X.prog X.w A.in1 s) (λx y v w u u' b e r1 r2 r3 r4=>(ih x y v w u u' b A.in1 e r1 r2 r3 r4 (by rw [qd];omega)).1) h2 h4 r1 r2 he
   have eb:((List.range (min its.toArray.size aL.toArray.size)).all e&&its.toArray.size==aL.toArray.size)=b:=by
    rw [h2.len,h4.len,r1.length,r2.length] at hb
    simpa using hb
   have rc:cG X.prog X.w A s (.ref a) (.ref a') b:=by
    rw [<-eb]
    exact cG.tuples (show s.heap.IsTuple a its.toArray from p1) (show s.heap.IsTuple a' aL.toArray from p2) (by omega) it
   refine ⟨?_,rc⟩
   by_cases eJ:a=a'
   ·subst eJ
    rw [EW I S (n+1) _ _ _ _ h rx ry]
    exact λE Q q=>SeqAt.EqAt.same _ _ _ E Q q
   ·exact .of_refs eJ rc
  | @rec_ i j _ h0 =>
   obtain ⟨a,rfl,h1⟩:=id rx
   obtain ⟨a',rfl,h2⟩:=id ry
   cases rv
   cases rw
   obtain ⟨ks,xs,bO,c9,e1,e2,nd,hl,hc⟩:=EV h0
   obtain ⟨vs,k1,k2,k3⟩:=S.addr e1 h1
   obtain ⟨ws,k4,k5,k6⟩:=S.addr e2 h2
   obtain ⟨_,s1,ka,EZ,da⟩:=ww I.hok (.inl k1)
   obtain ⟨_,s2,kb,E6,db⟩:=ww I.hok (.inl k4)
   have la:ka.length=ks.length:=by rw [<-EZ.length];simp [kz,k3]
   have lb:kb.length=bO.length:=by rw [<-E6.length];simp [kz,k6]
   have both:cG X.prog X.w A s (.ref a) (.ref a') b:=by
    rcases hc with ⟨sV,hc⟩|⟨sV,rfl⟩
    ·have hits:ka.length=kb.length->cU X.prog X.w A.in1 s kb ka b:=λ_=>EX (λx y v w u u' b e r1 r2 r3 r4=>(ih x y v w u u' b A.in1 e r1 r2 r3 r4 (by rw [qd];omega)).1) k5 E6 k3 k2 EZ hc
     have pN:(ka.length==kb.length&&b)=b:=by rw [la,lb,sV];simp
     rw [<-pN]
     exact cG.recs s1 s2 da db (by omega) hits
    ·have pN:(ka.length==kb.length&&true)=false:=by rw [la,lb];simpa using sV
     rw [<-pN]
     exact cG.recs s1 s2 da db (by omega) λz=>absurd (by rw [<-la,<-lb];exact z) sV
   refine ⟨?_,both⟩
   by_cases eJ:a=a'
   ·subst eJ
    rw [EW I S (n+1) _ _ _ _ h rx ry]
    exact λE Q q=>SeqAt.EqAt.same _ _ _ E Q q
   ·exact .of_refs eJ both
  | apart hx hy cq=>exact PF I (Kn.of S rx hx) (Kn.of S ry hy) rv rw cq (by omega)
def wF:Am:=λx y st=>match eqT st 150 x y with
 | some b=>.ok (.bl b) st
 | none=>.stuck
def PL (K:Frag) (mg:Ab):R2:=λv w H Q=>∃ρ st x y b,aX K mg ρ H st/\eqT st 150 x y=some b/\R K mg ρ H x v/\R K mg ρ H y w/\Q (.bl b) H
theorem PN (hu:X.A.units+200<cLine):bh X (compareOp .Eq) (PL X.K X.mg):=by
 intro pins s U H x y v u Q I rx ry h
 obtain ⟨ρ,st,a,b,k,S,e,ra,rb,q⟩:=h
 exact (PK I S 150 a b x y v u k X.A e ra rb rx ry (by omega)).2 _ _ ⟨.bl k,H,I,rfl,q⟩
def zfb (hu:X.A.units+200<cLine):b_ X .Eq wF:=⟨_,PN hu,fun ρ H st x y v w Q E s rx ry h=>by
 unfold wF at h
 cases e:eqT st 150 x y with
 | none=>rw [e] at h;exact h.elim
 | some b=>rw [e] at h;exact ⟨ρ,st,x,y,b,s,e,rx,ry,h.now s _ rfl⟩⟩
end
section
variable {X:Cx}{Er:XK}{K:Frag}{mg:Ab}{ρ:Ae}{pins:Ac}{U:L2.St}{H:Hp}{s:Shared}{st:aa}{o:Expr}{fo:Ai}{apos a7 p0 VA:Pos}
open Classical in
noncomputable def VB (K:Frag) (mg:Ab) (ρ:Ae) (H:Hp) (st:aa) (ys:An) (x:PV) (u:Value):Bool:=decide (∃y v,y∈ys/\R K mg ρ H y v/\RelV v u/\eqT st 150 y x=some true)
open Classical in
end
end Mi
namespace L2
open PySem PySem.Spec PyProof.Rows
def PQ (iy:Nat) (wi:TI) (te:TE):TS:=λD U H=>wi U H λJ H1=>lZ J te U (λv H2=>D.nx (U.set iy (some v)) H2) H1
theorem PU {X:Cx} {elt iter:Expr} {x y:Str} {px pos pos' fU:Pos} {scope:Scope} {wi:TI} {te:TE} {M:Ad} {iy:Nat} (hc:X.calm=true) (S:dr X.env.scope scope x) (eN:Hid scope M X.N) (cD:((".0" : Str)::x::M).Nodup)
  (hi:PI X (.Name x px) iter wi) (he:∀cl C ae ag fp,PE (kR X M scope cl x C ae ag fp (λ_ _=>False)) elt te) (qy:X.N.Nodup) (qz:X.N[iy]?=some y) (hy:Loc X.env.scope y) (qA:X.fn y=true\/X.env.scope.names.lookup y=some .local)
  (qB:swapsWith (.ListComp elt [⟨.Name x px,iter,[],0⟩] scope pos) (some (.Name y pos')) fU.line X.env=pure true) (hs:∀v,foldedSetIterable iter X.env v=pure v:=by intro _;rfl):PS X (.Assign [.Name y pos'] (.ListComp elt [⟨.Name x px,iter,[],0⟩] scope pos) fU) (PQ iy wi te):=by
 intro pins s U H Dn I h
 have hN:(x::M).Nodup:=(jH.mp cD).2
 have vz:(".0" : Str)∉M:=λz=>(jH.mp cD).1 (jm _ z)
 obtain ⟨cl,l_,di,kT⟩:=Dd X.env scope λp hp hf=>I.ok.has p.1 (.inl (S.free p hp hf))
 have ma:X.env.scope.kind=.function:=I.ok.kind
 rw [exec_Assign_Name_used _ _ _ _ qB]
 refine zx (wpAny_standAt ?_)
 rw [arm_evalThenUse_ListComp]
 refine zx (zx (wpAny_comprehension_free (Q:=λ_ s'=>wpAny (model X.prog X.w) X.A (pure ():Sem Unit) (λ_ s'=>wpAny (model X.prog X.w) X.A (pure .next:Sem Flow) (SP X pins Dn) X.xe s') X.xe s') (use:=some (assign (.Name y pos') X.env)) rfl hs l_ S.kind (λy hy hl=>(S.names y hy hl).1) ?_))
 refine aP (hi pins s U H _ I h) λv s1 h1=>aP h1 λrK ae h2=>?_
 obtain ⟨it,fp,tn,J,H2,e,I2,T,ay,f2,W,⟨m0,w0⟩,turn⟩:=h2
 subst e
 refine gf (wpAny_newFunctionEnv S.ncell (by intro y hy;simp at hy) (λaz aD aB=>?_) S.kind)
 dsimp only at aD aB ⊢
 generalize hH2:ae.heap.push { cls:=.type "list", dict:=none,data:=.seq ([]:Af).toArray }=G2 at aD aB ⊢
 have hC:G2.objs.size=ae.heap.objs.size+1:=by rw [<-hH2,Heap.size_push]
 have iw:ae.heap.objs.size≠G2.objs.size:=by rw [hC];exact jb (wv _)
 have Dl:ae.heap.objs.size<=G2.objs.size:=by rw [hC];exact Nat.le_succ _
 have old:∀b o,ae.heap.get? b=some o->az.get? b=some o:=λb o e=>by
  have hb:b≠G2.objs.size:=by rw [hC];exact jb (Nat.lt_succ_of_lt (yA e))
  exact aB.extBut b o hb (yh _ (hH2▸yh _ e))
 have pO:az.get? ae.heap.objs.size=some { cls:=.type "list", data:=.seq (#[]:Array Value) 0 }:=aB.extBut _ _ iw (yh _ (hH2▸yW _ rfl))
 generalize hD:ae.heap.objs.size=D at *
 generalize hCC:G2.objs.size=C at *
 have eI:∀{b:Nat} {o:Obj},ae.heap.get? b=some o->b<D:=λe=>by rw [<-hD];exact yA e
 have nofr:∀b,D<=b->b∉dc X.stack:=λb hb z=>by
  rcases yC.mp (I2.stkSub b z) with q|q
  ·exact C7 I2.lt hD hb q
  ·exact I2.nofs (by rw [hD];exact hb) q
 let E':Aa:=notedBy (model X.prog X.w) X.A (compEnvC scope cl C X.env) λe s'=>compPost (model X.prog X.w) X.A X.xe (some (assign (.Name y pos') X.env)) (λ_ s'=>wpAny (model X.prog X.w) X.A (pure ():Sem Unit) (λ_ s'=>wpAny (model X.prog X.w) X.A (pure .next:Sem Flow) (SP X pins Dn) X.xe s') X.xe s') (.ref D) C (.error e) s'
 let Y:Cx:=kR X M scope cl x C ae H2 fp E'
 have dH:∀b∈fp,df X pins H2 b:=f2
 have mh:Y.Ok:=by
  refine ⟨I2.ok.mod,S.kind,I2.ok.glob,I2.ok.blt,(by show ae.heap.objs.size<=C;omega),λy z c h1 h2=>?_,λy hy=>?_,λy c hf=>?_,I2.ok.hd,I2.ok.frames,.inl rfl,λb hb=>?_,I2.bs,ja I2.ok.bsz I2.sz,λb o hb hx=>?_,λb hb hx=>?_,I2.stack,I2.stkFree⟩
  ·exact I2.ok.inj y z c (di y c h1) (di z c h2)
  ·exact kT y (vv S ma hy)
  ·cases hf
  ·refine ⟨λz=>?_,λy c hy=>(dH b hb).2.2.2.2.1 y c (di y c hy)⟩
   obtain ⟨o,ho,_⟩:=T.obj 0 _ ay b hb
   exact lY (eI ho) hC z
  ·rcases (dH b hx).2.2.2.1 with z|z
   ·exact I2.ok.noex b o hb z
   ·exact C8 (yA hb) I2.ok.bsz z
  ·rcases yC.mp (I2.stkSub b hx) with q|q
   ·exact (dH b hb).2.1 q
   ·exact (dH b hb).2.2.1 q
 have fM:∀{s':Shared} {H':Hp} {o:Obj},s'.heap.get? D=some o->H' D=none->(∀v,o.data ≠ .cell v)->∀p∈[(D,o)],s'.heap.get? p.1=some p.2/\H' p.1=none/\p.1≠Y.env.locals/\p.1∉Y.fs/\∀v,p.2.data ≠ .cell v:=λ{s' H' o} e1 e2 e3 p hp=>by
  have ep:p=(D,o):=by simpa using hp
  subst ep
  exact ⟨e1,e2,iw,nofr D (ym _),e3⟩
 have I0:Inv Y [(D,{ cls:=.type "list", data:=.seq (#[]:Array Value) 0 })] (none::U) H2 { ae with heap:=az,toks:=ae.toks+([]:List (Str×Value)).length }:=by
  have fresh:∀b,D<=b->H2 b=none:=λb hb=>I2.hok.fresh (by rw [hD];exact hb)
  refine ⟨mh,rfl,I2.bare,Un.kept old,⟨_,aD,λi y v e1 e2 e3=>?_⟩,λy c hy=>?_,fresh C (by omega),λy c hy=>I2.freeC y c (di y c hy),λp hp=>fM pO (fresh D (ym _)) (λv z=>by cases z) p hp,I2.hok.kept old,?_⟩
  ·cases i with
   | zero=>simp at e2
   | succ i =>
    have pP:M[i]?=some y:=by simpa [Y,kR] using e1
    have pQ:X.N[i]?=some y:=by
     rcases eN.get pP with q|q
     ·exact q
     ·refine absurd ?_ q
      rcases e3 with e3|e3|e3<;>(obtain ⟨k0,hm,_⟩:=kS e3;exact jv.mpr ⟨_,hm,rfl⟩)
    have vA:U[i]?=some (some v):=by simpa using e2
    have kU:¬(y=x\/y = ".0"):=λz=>by
     have hm:=wb pP
     rcases z with z|z
     ·rw [z] at hm
      exact (jH.mp hN).1 hm
     ·rw [z] at hm
      exact vz hm
    have fC:(y,NameKind.free)∈scope.names:=by
     rcases e3 with e3|e3|e3
     ·exact absurd (Df S e3) kU
     ·exact vv S ma (.inl e3)
     ·exact vv S ma (.inr e3)
    have pR:X.env.scope.names.lookup y=some .cell:=S.free _ fC rfl
    obtain ⟨m,hn,hl⟩:=I2.loc
    obtain ⟨u,r,l⟩:=hl i y v pQ vA (.inr (.inl pR))
    refine ⟨u,r,?_⟩
    rcases l with ⟨hk,_⟩|⟨_,c,nV,fI⟩
    ·have:X.env.kindOf y=some .cell:=pR
     rw [this] at hk;cases hk
    ·obtain ⟨c',cw⟩:=kT y fC
     have:=di y c' cw
     rw [nV] at this
     cases this
     refine .inr ⟨?_,c,cw,?_⟩
     ·rcases e3 with e3|e3|e3
      ·exact absurd (Df S e3) kU
      ·exact .inl e3
      ·exact .inr e3
     ·obtain ⟨o,ho,hd⟩:=fI
      exact ⟨o,old c o ho,hd⟩
  ·obtain ⟨v,o,ho,hd⟩:=I2.cell y c (di y c hy)
   exact ⟨v,o,old c o ho,hd⟩
  ·show (none::U).length=(x::M).length
   simp [I2.len,eN.1]
 have mi:∀{pl:Ac} {H':Hp},(∀p∈pl,p.1=D)->(∀b∈fp,H' b=none)->∀b∈fp,df Y pl H' b:=λ{pl H'} bU hn b hb=>by
  obtain ⟨o,ho,_⟩:=T.obj 0 _ ay b hb
  refine ⟨hn b hb,λz=>?_,?_,.inl hb,(mh.exf b hb).2,λp hp z=>?_⟩
  ·exact lY (eI ho) hC z
  ·exact mh.exfs b hb
  ·have hp':p∈pl:=by simpa [Y,kR] using hp
   exact C_ (eI ho) (bU p hp') z
 have loop:codeAny (model X.prog X.w) X.A (.compLoop (.ListComp elt [⟨.Name x px,iter,[],0⟩] scope pos) 0 (.ref it) (.ref D) (compEnvC scope cl C X.env))
   (compPost (model X.prog X.w) X.A X.xe (some (assign (.Name y pos') X.env)) (λ_ s'=>wpAny (model X.prog X.w) X.A (pure ():Sem Unit) (λ_ s'=>wpAny (model X.prog X.w) X.A (pure .next:Sem Flow) (SP X pins Dn) X.xe s') X.xe s') (.ref D) C) { ae with heap:=az,toks:=ae.toks+([]:List (Str×Value)).length }:=by
  refine Ma (λn s'=>∃i ys H' its k,Inv Y [(D,{ cls:=.type "list", data:=.seq (its:Af).toArray k })] (none::U) H' s'/\Vals ys its/\tn i s'.heap/\(∀b∈fp,H' b=none)/\W i n ys H') ?_ m0
   ⟨0,[],H2,[],0,I0,.nil,T.keep 0 _ _ ay (λb hb o e=>old b o e),λb hb=>(dH b hb).1,w0⟩
  rintro n s3 ⟨i,ys,H3,its,k,I3,rv,aS,kN,w3⟩
  have gE:∀{o:Obj},∀p∈[(D,o)],p.1=D:=λ{o} p hp=>by
   have ep:p=(D,o):=by simpa using hp
   rw [ep]
  obtain ⟨gD,nD,_,_,_⟩:=I3.pin (D,_) (jn _ y0)
  rcases turn i n ys H3 w3 with ⟨stop,hz,q⟩|⟨go,hz,step⟩
  ·refine aP (T.done Y rfl rfl rfl hc i _ s3 _ H3 E' I3 (mi gE kN) aS stop) λr s4 ⟨hr,I4⟩=>?_
   subst hr
   obtain ⟨vB,mj,_,_,_⟩:=I4.pin (D,_) (jn _ y0)
   obtain ⟨m4,vC,_⟩:=id I4.loc
   have fin:∀h',Heap.SameBut C s4.heap h'->Inv X pins U (upd H3 D (.lst ys)) { s4 with heap:=h' }:=λh' dI=>by
    have ig:∀{b:Addr} {u:HO},H3 b=some u->b≠C:=λe z=>by
     have:H3 C=none:=I4.free
     rw [z,this] at e;cases e
    refine I2.call' (s':={ s4 with heap:=h' }) (ch:=fp) (H':=upd H3 D (.lst ys)) I4.os ?_ ?_ I4.bare λb hb=>⟨(dH b hb).2.2.2.1,(dH b hb).2.1,(dH b hb).2.2.2.2.1,(dH b hb).2.2.2.2.2⟩
    ·have B:=I4.base
     have mm:∀{b:Nat} {o:Obj},ae.heap.get? b=some o->b≠C:=λe z=>lY (eI e) hC z
     have mn:∀{b:Addr} {u:HO},H3 b=some u->b≠D:=λe z=>by rw [z,mj] at e;cases e
     refine ⟨λb o e nn hb hx=>(dI.2 b (mm e)).trans (B.keep b o e nn hb hx),λb o e nn hb hx=>?_,λb o e nn hx=>?_,λb o e hx=>?_,λb xs e=>?_,λb o u e=>?_,λb ps e=>?_⟩
     ·obtain ⟨sl,z⟩:=B.slot b o e nn hb hx
      exact ⟨sl,(dI.2 b (mm e)).trans z⟩
     ·have vD:b≠D:=jb (eI e)
      rw [yE vD]
      exact B.free b o e nn hx
     ·obtain ⟨o',z⟩:=B.there b o e hx
      exact ⟨o',(dI.2 b (mm e)).trans z⟩
     ·have z:=B.tups b xs e
      rw [yE (mn z)];exact z
     ·have z:=B.frzs b o u e
      rw [yE (mn z)];exact z
     ·obtain ⟨more,z⟩:=B.tbls b ps e
      exact ⟨more,by rw [yE (mn z)];exact z⟩
    ·intro a o e
     by_cases ha:a=D
     ·subst ha
      rw [jf] at e
      cases e
      exact ⟨hz,its,k,rv,(dI.2 _ iw).trans vB⟩
     ·rw [yE ha] at e
      have fD:∀b u,H3 b=some u->(upd H3 D (.lst ys)) b=some u:=λb u z=>by
       have hb:b≠D:=λw=>by rw [w,mj] at z;cases z
       rw [yE hb];exact z
      refine (I4.hok a o e).stay (λb u hb z=>(dI.2 b ?_).trans z) (λb z=>fD b _ z) λb xs z=>fD b _ z
      rcases hb with hb|hb
      ·rw [hb];exact ig e
      ·exact ig hb
   have PX:C≠D:=λz=>iw z.symm
   have IX:=fin s4.heap ⟨rfl,λ_ _=>rfl⟩
   obtain ⟨oC,eC,pC,gC,rC⟩:=id vC
   have E_:upd H3 D (.lst ys) C=none:=by rw [yE PX];exact I4.free
   have xN:∀b o,ae.heap.get? b=some o->b≠C:=λb o e z=>lY (eI e) hC z
   have Fb:C≠X.env.locals:=λz=>by
    obtain ⟨m2,fj,_⟩:=id I2.loc
    obtain ⟨o2,_,_,g2,_⟩:=fj
    exact xN _ _ g2 z.symm
   have PY:C∉X.fs:=I2.nofs (by rw [hD];omega)
   have IP:Inv X (pins++[(C,oC)]) U (upd H3 D (.lst ys)) s4:=IX.pins_of λp hp=>by
    rcases wu.mp hp with hp|hp
    ·exact IX.pin p (jn _ hp)
    ·have ep:p=(C,oC):=by simpa using hp
     subst ep
     exact ⟨gC,E_,Fb,PY,λv z=>by rw [rC.1] at z;cases z⟩
   show wpAny _ _ (assign (.Name y pos') X.env (.ref D)) _ _ s4
   have cC:wpAny (model X.prog X.w) X.A (assign (.Name y pos') X.env (.ref D)) (λ_ s5=>Inv X (pins++[(C,oC)]) (U.set iy (some (.ref D))) (upd H3 D (.lst ys)) s5) X.xe s4:=wpAny_assign_Name (vb IP qy qz hy (v:=.ref D) rfl (λs5 I5=>I5) qA)
   refine aP cC λ_ s5 I5=>?_
   have g5:=(I5.pin (C,oC) (jn _ (jn _ y0))).1
   refine ⟨m4,⟨oC,eC,pC,g5,rC⟩,λWk dI=>zZ (zZ ⟨_,_,?_,q D mj⟩)⟩
   exact (I5.pins_of (pins':=pins) λp hp=>I5.pin p (jn _ (gh _ hp))).turned (it:=C) (t':=s5.toks) (λb o hb e=>(dI.2 b hb).trans e) E_ Fb
    (.inr (by have:=I2.sz;rw [hD] at this;omega)) (λa c ha z=>by
     obtain ⟨v',o',ho',_⟩:=I2.cell a c ha
     exact xN _ _ ho' z) (λp hp=>xN _ _ (I2.pin p hp).1)
  ·refine aP (T.item Y rfl rfl rfl hc i _ s3 _ H3 E' I3 (mi gE kN) aS go) λr s4 ⟨u,hr,h4⟩=>?_
   subst hr
   refine aP h4 λ_ s5 ⟨z,H5,I5,r5,y5,fJ,pB⟩=>?_
   have pD:=I5.pinned (mi gE pB) (T.obj _ _ fJ)
   have gF:PG Y (.Name x px) (wX 0):=ik (X:=Y) hN rfl (.inl (wB S.hx)) (.inr (wB S.hx))
   have vE:PE Y elt te:=PE.nox (X:=Y) (he cl C ae H2 fp)
   refine aP (gF _ s5 (none::U) H5 z u (λai H'=>ai=some z::U/\H'=H5) pD r5 ⟨rfl,rfl⟩) λ_ s6 ⟨aG,H6,I6,e1,e2⟩=>?_
   subst e1 e2
   refine aP (vE _ s6 _ _ _ I6 (step z _ y5)) λuy s7 ⟨y,H7,I7,ry,m',hm,w7⟩=>?_
   obtain ⟨pS,mq,_,_,_⟩:=I7.pin (D,_) (jn _ (gh _ y0))
   refine wpAny_list_append_plain ⟨k,pS⟩ (λh' bU dI=>?_) (by rw [yQ,<-rv.length];exact hz)
   obtain ⟨k',pU⟩:=bU
   have I8:Inv Y [] (some z::U) H7 { s7 with heap:=h' }:=(I7.pins_of (pins':=[]) (λp hp=>nomatch hp)).turned (it:=D) (t':=s7.toks) (λb o hb e=>(dI.2 b hb).trans e) mq iw
    (.inr (by show ae.heap.objs.size<=D;omega)) (λa c hy mv=>by
     obtain ⟨v',o',ho',_⟩:=I2.cell a c (di a c hy)
     exact jb (eI ho') mv) (λp hp=>by simp [Y,kR] at hp)
   have I9:Inv Y [] (none::U) H7 { s7 with heap:=h' }:=I8.weak (by simp) λj v e=>by
    cases j with
    | zero=>simp at e
    | succ j=>simpa using e
   have dZ:∀b∈fp,∃o,s5.heap.get? b=some o/\s7.heap.get? b=some o/\H7 b=none:=λb hb=>by
    obtain ⟨o,e,_⟩:=T.obj _ _ fJ b hb
    have q:=I7.pin (b,o) (jn _ (jn _ (pA hb e)))
    exact ⟨o,e,q.1,q.2.1⟩
   have vF:∀b∈fp,b≠D:=λb hb=>by
    obtain ⟨o,ho,_⟩:=T.obj 0 _ ay b hb
    exact jb (eI ho)
   have eT:its.toArray.push uy=(its++[uy]).toArray:=by simp
   rw [eT] at pU
   refine ⟨m',hm,i+1,ys++[y],H7,its++[uy],k',I9.pins_of (fM pU mq λv e=>by cases e),rv.append (.cons ry .nil),T.keep (i+1) _ _ fJ λb hb o e=>?_,λb hb=>?_,w7⟩
   ·obtain ⟨o',e1,e2,_⟩:=dZ b hb
    rw [e] at e1
    cases e1
    exact (dI.2 b (vF b hb)).trans e2
   ·obtain ⟨_,_,_,q⟩:=dZ b hb
    exact q
 exact codeAny_compStart_list loop (T.self X.A 0 _ _ _ (T.keep 0 _ _ ay (λb hb o e=>old b o e)) loop)
end L2
namespace Mi
open PySem L2 PySem.W PySem.Spec
section
variable {X:Cx}{Er:XK}{pos:Pos}
def Fc (X:Cx) (Er:XK) (src:zm->Mo Sq):TI:=λU H R=>∃env st ρ,bg X.K X.mg ρ H env U/\aX X.K X.mg ρ H st/\Out X.K X.mg ρ H (src env st) (λah H' q bu=>∀J,Walk X.K X.mg J ah H' q->R J H') Er
def PZ {src:zm->Mo Sq}{fe:Ai}(U:L2.St) (H:Hp) (Q:VK) (hh:tM X.K X.mg Er (jd src fe) U H Q):Dg (Fc X Er src) (tM X.K X.mg XN fe) U H Q:=by
 obtain ⟨env,st,ρ,re,rs,h⟩:=hh
 refine ⟨env,st,ρ,re,rs,h.then λar H0 q dD e0 s0 h0 J wk=>?_⟩
 cases q with
 | im xs =>
  obtain ⟨hl,h0⟩:=Out.ifp h0
  obtain ⟨w1,w2,w3⟩:=wk
  refine ⟨λi m ys H=>m=xs.length-i/\i<=xs.length/\ys.length=i/\∃ps st ρ,Rs X.K X.mg ρ H ps ys/\aX X.K X.mg ρ H st/\Ext ar H0 ρ H/\Out X.K X.mg ρ H (cT fe env (xs.drop i) ps st) (gV X.K X.mg Q) Er,⟨xs.length,by simp,jB _,rfl,[],dD,ar,rfl,s0,Ext.refl,h0⟩,?_⟩
  rintro i m ys H ⟨rfl,hi,hy,ps,st,ρ,cK,rs,ex,h⟩
  by_cases bj:i<xs.length
  ·refine .inr ⟨w1 i ρ H ex bj,jo (by omega),λv H' y=>?_⟩
   obtain ⟨x,hx,bX,s2,rx⟩:=w3 i ρ H st v H' ex rs bj y
   have hd:xs.drop i=x::xs.drop (i+1):=by
    rw [wa bj]
    have:=(yt.mp hx).2
    rw [this]
   rw [hd] at h
   simp only [cT] at h
   refine ⟨some x::env,st,ρ,(re.ext (e0.trans (ex.trans bX))).cons rx,s2,gO (Out.ext h bX) λaj H3 y aS e3 s3 h3 v ry=>⟨xs.length-(i+1),by omega,rfl,bj,by simp [hy],ps++[y],aS,aj,Rs.snoc ry (Rs.ext (bX.trans e3) ps cK),s3,(ex.trans bX).trans e3,h3⟩⟩
  ·have e:i=xs.length:=by omega
   subst e
   rw [List.drop_length] at h
   exact .inl ⟨w2 _ ρ H ex (ym _),jo (by omega),λl hl=>Out.newList h rs cK hl⟩
 | rf n =>
  obtain ⟨a,ha,rfl⟩:=wk
  refine ⟨λi m ys H=>m+i=lim+1/\ys.length=i/\∃ps st ρ,Rs X.K X.mg ρ H ps ys/\aX X.K X.mg ρ H st/\Ext ar H0 ρ H/\ρ[n]?=some a/\Out X.K X.mg ρ H (ko fe env n m i ps st) (gV X.K X.mg Q) Er,⟨lim+1,rfl,rfl,[],dD,ar,rfl,s0,Ext.refl,ha,h0⟩,?_⟩
  rintro i m ys H ⟨hm,hy,ps,st,ρ,cK,rs,ex,ha,h⟩
  cases m with
  | zero=>exact h.elim
  | succ m =>
   obtain ⟨xs,hn,h⟩:=jp h
   obtain ⟨vs,hH,hR⟩:=rs.addr hn ha
   cases hx:xs[i]? with
   | none =>
    simp only [hx] at h
    have:vs.length<=i:=by rw [<-hR.len];exact kJ.mp hx
    exact .inl ⟨⟨vs,aQ.of hH,this⟩,jo (by omega),λl hl=>Out.newList h rs cK hl⟩
   | some x =>
    simp only [hx] at h
    obtain ⟨v,hv,rv⟩:=hR.get hx
    refine .inr ⟨⟨vs,v,aQ.of hH,hv⟩,jo (by omega),λv' H' y=>?_⟩
    obtain ⟨e1,y⟩:=y
    subst e1
    have e2:=y vs (aQ.of hH)
    rw [hv] at e2
    cases e2
    exact ⟨some x::env,st,ρ,(re.ext (e0.trans ex)).cons rv,rs,gO h λaj H3 y aS e3 s3 h3 v ry=>⟨m,wv m,by omega,by simp [hy],ps++[y],aS,aj,Rs.snoc ry (Rs.ext e3 ps cK),s3,ex.trans e3,e3.get ha,h3⟩⟩
def Fe (i:Nat) {elt iter:Expr} {x y:Str} {px pos' fU:Pos} {scope:Scope} {src:zm->Mo Sq} {fe:Ai} {M:Ad} (hc:X.calm=true) (S:dr X.env.scope scope x) (eN:Hid scope M X.N) (cD:((".0" : Str)::x::M).Nodup)
  (hi:MI X Er (.Name x px) iter src) (he:∀cl C ae ag fp,ME (kR X M scope cl x C ae ag fp (λ_ _=>False)) XN elt fe) (qy:X.N.Nodup) (qz:X.N[i]?=some y) (hy:Loc X.env.scope y) (qA:X.fn y=true\/X.env.scope.names.lookup y=some .local)
  (qB:swapsWith (.ListComp elt [⟨.Name x px,iter,[],0⟩] scope pos) (some (.Name y pos')) fU.line X.env=pure true) (hs:∀v,foldedSetIterable iter X.env v=pure v:=by intro _;rfl) :
  MS X Er (.Assign [.Name y pos'] (.ListComp elt [⟨.Name x px,iter,[],0⟩] scope pos) fU) (zH i (jd src fe)) :=
 PS.weak (PU (te:=tM X.K X.mg XN fe) hc S eN cD hi (λcl C ae ag fp=>he cl C ae ag fp) qy qz hy qA qB hs) λD U H ⟨env,st,ρ,re,rs,h⟩=>by
  refine PZ (X:=X) (Er:=Er) (src:=src) (fe:=fe) U H (λv H2=>D.nx (U.set i (some v)) H2) ⟨env,st,ρ,re,rs,h.then λaf H1 x aq e1 s1 h1 v rv=>?_⟩
  exact h1.now s1 (U.set i (some v)) ((re.ext e1).set i rv)
def xO (i:Nat) {elt iter:Expr} {x y:Str} {px pos' fU:Pos} {scope:Scope} {src:zm->Mo Sq} {fe:Ai} {N:Ad} (hc:X.calm=true) (S:dr X.env.scope scope x) (eN:X.N=N) (cD:((".0" : Str)::x::N).Nodup)
  (hi:MI X Er (.Name x px) iter src) (he:∀cl C ae ag fp,ME (De X scope cl x C ae ag fp (λ_ _=>False)) XN elt fe) (qy:X.N.Nodup) (qz:X.N[i]?=some y) (hy:Loc X.env.scope y) (qA:X.fn y=true\/X.env.scope.names.lookup y=some .local)
  (qB:swapsWith (.ListComp elt [⟨.Name x px,iter,[],0⟩] scope pos) (some (.Name y pos')) fU.line X.env=pure true) (hs:∀v,foldedSetIterable iter X.env v=pure v:=by intro _;rfl) :
  MS X Er (.Assign [.Name y pos'] (.ListComp elt [⟨.Name x px,iter,[],0⟩] scope pos) fU) (zH i (jd src fe)) :=
 Fe i hc S Hid.refl (eN▸cD) hi he qy qz hy qA qB hs
end
end Mi
namespace L2
open PySem PySem.Spec PyProof.Rows PySem.W
section
variable {X:Cx}{pins:Ac}{U:St}{H:Hp}{s:Shared}{a:Addr}{kvs:List (Key×V)}{o:Obj}
end
end L2
namespace Mi
open PySem L2 PySem.W PySem.Spec
section
variable {K:Frag}{mg:Ab}{ρ:Ae}{H:Hp}{a:Addr}{o:Obj}{kvs:List (Key×V)}{u:HO}
def qC (ha:H a=some (.frz o (.dK kvs))) {b:Addr}{w:HO}(h:H b=some w) (n:∀o k,w ≠ .frz o (.dK k)):upd H a u b=some w:=by
 rw [yE]
 ·exact h
 ·intro z;subst z;rw [ha] at h;cases h;exact n _ _ rfl
def P2 (ha:H a=some (.frz o (.dK kvs))) {p:Addr}{xs:List V}(h:aW K H p xs):aW K (upd H a u) p xs:=by
 rcases h with (h|⟨o,h⟩)|h
 ·exact .inl (.inl (qC ha h (λ_ _=>nofun)))
 ·exact .inl (.inr ⟨o,qC ha h (λ_ _=>nofun)⟩)
 ·exact .inr h
def P4 (ha:H a=some (.frz o (.dK kvs))) {p:Addr}{xs:List V}(h:kh K H p xs):kh K (upd H a u) p xs:=by
 rcases h with ⟨o,h⟩|h
 ·exact .inl ⟨o,qC ha h (λ_ _=>nofun)⟩
 ·exact .inr h
mutual
theorem R.th (ha:H a=some (.frz o (.dK kvs))):∀(x:PV) {v:V},R K mg ρ H x v->R K mg ρ (upd H a u) x v
 | .non,_,h=>h
 | .bl _,_,h=>h
 | .int _,_,h=>h
 | .str _,_,h=>h
 | .ty _,_,h=>h
 | .tup xs,_,h=>by
  obtain ⟨a,vs,h1,h2,h3⟩:=h
  exact ⟨a,vs,h1,P2 ha h2,Rs.th ha xs h3⟩
 | .frl xs,_,h=>by
  obtain ⟨a,vs,h1,h2,h3⟩:=h
  exact ⟨a,vs,h1,P4 ha h2,Rs.th ha xs h3⟩
 | .ref n,_,h=>h
 | .fn _,_,h=>h
 | .kd ks xs,_,h=>by
  obtain ⟨a,us,vs,h1,h2,h4,h3⟩:=h
  exact ⟨a,us,vs,h1,h2,h4,Rs.th ha xs h3⟩
 | .exo c ks xs,_,h=>by
  obtain ⟨a,C,d,vs,h1,h2,h3,h4,h5,h6⟩:=h
  exact ⟨a,C,d,vs,h1,h2,qC ha h3 (λ_ _=>nofun),qC ha h4 (λ_ _=>nofun),Rs.th ha xs h5,h6⟩
theorem Rs.th (ha:H a=some (.frz o (.dK kvs))):∀(xs:An) {vs:List V},Rs K mg ρ H xs vs->Rs K mg ρ (upd H a u) xs vs
 | [],_,h=>h
 | x::xs,_,h=>by
  obtain ⟨v,r,h1,h2,h3⟩:=h
  exact ⟨v,r,h1,R.th ha x h2,Rs.th ha xs h3⟩
end
def bg.th (ha:H a=some (.frz o (.dK kvs))) {env:zm}{U:L2.St}(h:bg K mg ρ H env U):bg K mg ρ (upd H a u) env U :=
 ⟨h.len,λi x hx=>let ⟨v,p,q⟩:=h.at_ i x hx;⟨v,p,R.th ha x q⟩⟩
end
section
variable {X:Cx}{Er:XK}{pos:Pos}{o:Expr}{dX:List Stmt}{gb:Aj}{fo:Ai}{fs:Ah}
end
end Mi
namespace L2
open PySem PySem.Spec PyProof.Rows PySem.W
end L2
namespace Mi
open PySem L2 PySem.W PySem.Spec
section
variable {X:Cx}{Er:XK}{K:Frag}{mg:Ab}{pos p apos a7:Pos}{o e f:Expr}{fo fk fx:Ai}
def cu:List PV->Option (List Bool)
 | []=>some []
 | .bl b::r=>(cu r).map (b::·)
 | _::_=>none
theorem xP {ρ:Ae}{H:Hp}:∀{xs:An}{bs:List Bool}{vs:List V},cu xs=some bs->Rs K mg ρ H xs vs->vs=bs.map V.bl
 | [],bs,vs,e,h=>by cases e;cases h;rfl
 | .bl i::r,bs,vs,e,h=>by
  simp only [cu,Option.map_eq_some_iff] at e
  obtain ⟨ir,e1,rfl⟩:=e
  obtain ⟨v,r',rfl,h1,h2⟩:=h
  cases h1
  rw [xP e1 h2]
  rfl
 | .non::_,_,_,e,_=>by cases e
 | .int _::_,_,_,e,_=>by cases e
 | .str _::_,_,_,e,_=>by cases e
 | .ty _::_,_,_,e,_=>by cases e
 | .tup _::_,_,_,e,_=>by cases e
 | .frl _::_,_,_,e,_=>by cases e
 | .ref _::_,_,_,e,_=>by cases e
 | .fn _::_,_,_,e,_=>by cases e
 | .kd _ _::_,_,_,e,_=>by cases e
 | .exo _ _ _::_,_,_,e,_=>by cases e
theorem Ff:∀bs:List Bool,cu (bs.map PV.bl)=some bs
 | []=>rfl
 | b::bs=>by simp [cu,Ff bs]
def mO:Al:=λvs st=>(gP vs st).bind λn st=>yi st n λxs=>match cu xs with
 | some bs=>.ok (.bl (bs.all id)) st
 | none=>.stuck
def P5 (hc:X.calm=true):cE X (.builtin "all") mO:=⟨_,Mh hc,fun ρ H st xs vs Q E s r h=>by
 obtain ⟨n,ys,rfl,hn,h⟩:=sP h
 obtain ⟨c9,lT,h⟩:=jp h
 obtain ⟨v,rfl,rv⟩:=r.one
 obtain ⟨a,rfl,ha⟩:=rv
 obtain ⟨ws,hH,hR⟩:=s.addr lT ha
 cases hi:cu c9 with
 | none=>simp only [hi] at h;exact h.elim
 | some bs =>
  simp only [hi] at h
  have e:=xP hi hR
  subst e
  exact ⟨a,bs,rfl,aQ.of hH,Out.now (x:=PV.bl (bs.all id)) h s _ rfl⟩⟩
theorem P6:bootBuiltins "all" = some (.builtin "all"):=by decide +kernel
def pairOf:PV->Option (PV×PV)
 | .tup [x,y]=>some (x,y)
 | _=>none
def P7 {q:PV}{r:PV×PV}(h:pairOf q=some r):q=.tup [r.1,r.2]:=by
 unfold pairOf at h
 split at h
 ·cases h;rfl
 ·cases h
def wP (fe:Ai) (env:zm):List PV->Al
 | [],ys,st=>.ok (.ref st.length) (st++[.lst ys])
 | q::xs,ys,st=>match pairOf q with
  | some r=>(cS (fe (some r.1::some r.2::env) st)).bind λz aq=>wP fe env xs (ys++[z]) aq
  | none=>.stuck
def P8 {fe:Ai}{env:zm}{q:PV}{xs ys:An}{st:aa}{ρ:Ae}{H:Hp}{good:List Addr->Hp->PV->aa->Prop}(h:Out K mg ρ H (wP fe env (q::xs) ys st) good Er):∃x y,q=.tup [x,y]/\Out K mg ρ H ((cS (fe (some x::some y::env) st)).bind λz aq=>wP fe env xs (ys++[z]) aq) good Er:=by
 simp only [wP] at h
 cases hq:pairOf q with
 | none=>simp only [hq] at h;exact h.elim
 | some r =>
  simp only [hq] at h
  exact ⟨r.1,r.2,P7 hq,h⟩
def uO:Sq->Option (An)
 | .im xs=>some xs
 | .rf _=>none
def xQ (src:zm->Mo Sq) (fe:Ai):Ai:=λenv st=>(src env st).bind λq aq=>match uO q with
 | some xs=>if xs.length<=lim then wP fe env xs [] aq else .stuck
 | none=>.stuck
def P9 {elt iter:Expr} {x y:Str} {kt:Nat} {px py tp:Pos} {scope:Scope} {src:zm->Mo Sq} {fe:Ai} {N:Ad} (hc:X.calm=true) (S:du X.env.scope scope [x,y]) (eN:X.N=N) (cD:((".0" : Str)::([x,y]++N)).Nodup)
  (hi:MI X Er (.Tuple [.Name x px,.Name y py] kt tp) iter src) (he:∀cl C ae ag fp,ME (eE X scope cl [x,y] C ae ag fp (λ_ _=>False)) XN elt fe)
  (hx:scope.names.lookup x=some .local:=by rfl) (hy:scope.names.lookup y=some .local:=by rfl) (hs:∀v,foldedSetIterable iter X.env v=pure v:=by intro _;rfl) :
  ME X Er (.ListComp elt [⟨.Tuple [.Name x px,.Name y py] kt tp,iter,[],0⟩] scope pos) (xQ src fe):=by
 have hN:([x,y]++X.N).Nodup:=by rw [eN];exact (jH.mp cD).2
 have gF:∀cl C ae ag fp E,PG (eE X scope cl [x,y] C ae ag fp E) (.Tuple [.Name x px,.Name y py] kt tp) (vf X.K 2 (pj (wX 0) (pj (wX 1) vc))):=λcl C ae ag fp E=>vg (n:=2) hc
  (nW (ik (X:=eE X scope cl [x,y] C ae ag fp E) (i:=0) hN rfl (.inl (wB hx)) (.inr (wB hx)))
  (nW (ik (X:=eE X scope cl [x,y] C ae ag fp E) (i:=1) hN rfl (.inl (wB hy)) (.inr (wB hy))) vd))
 exact PE.weak (vG (te:=tM X.K X.mg XN fe) (tt:=n_) hc S eN cD hi gF (λcl C ae ag fp=>Di) (λcl C ae ag fp=>he cl C ae ag fp) hs) λU H Q ⟨env,st,ρ,re,rs,h⟩=>⟨env,st,ρ,re,rs,h.then λar H0 q dD e0 s0 h0 J wk=>by
  cases q with
  | rf n=>exact h0.elim
  | im xs =>
   obtain ⟨hl,h0⟩:=Out.ifp (show Out X.K X.mg ar H0 (if xs.length<=lim then wP fe env xs [] dD else .stuck) (gV X.K X.mg Q) Er from h0)
   obtain ⟨w1,w2,w3⟩:=wk
   refine ⟨λi m ys H=>m=xs.length-i/\i<=xs.length/\ys.length=i/\∃ps st ρ,Rs X.K X.mg ρ H ps ys/\aX X.K X.mg ρ H st/\Ext ar H0 ρ H/\Out X.K X.mg ρ H (wP fe env (xs.drop i) ps st) (gV X.K X.mg Q) Er,⟨xs.length,by simp,jB _,rfl,[],dD,ar,rfl,s0,Ext.refl,h0⟩,?_⟩
   rintro i m ys H ⟨rfl,hi,hy,ps,st,ρ,cK,rs,ex,h⟩
   by_cases bj:i<xs.length
   ·refine .inr ⟨w1 i ρ H ex bj,jo (by omega),λv H' yy=>?_⟩
    obtain ⟨x,hx,bX,s2,rx⟩:=w3 i ρ H st v H' ex rs bj yy
    have hd:xs.drop i=x::xs.drop (i+1):=by
     rw [wa bj]
     have:=(yt.mp hx).2
     rw [this]
    rw [hd] at h
    obtain ⟨p,q,rfl,h⟩:=P8 h
    obtain ⟨a,vs,rfl,h1,h2⟩:=rx
    obtain ⟨u,w,rfl,r1,r2⟩:=Rs.two h2
    refine ⟨a,[u,w],rfl,h1,rfl,u,[w],rfl,w,[],rfl,rfl,[some u,some w],rfl,rfl,?_⟩
    have iM:bg X.K X.mg ρ H' (some p::some q::env) (some u::some w::U):=((re.ext (e0.trans (ex.trans bX))).cons r2).cons r1
    simp only [n_,↓reduceIte]
    exact ⟨_,st,ρ,iM,s2,gO (Out.ext h bX) λaE H4 y ff e4 s4 h4 v4 r4=>⟨xs.length-(i+1),by omega,rfl,bj,by simp [hy],ps++[y],ff,aE,Rs.snoc r4 (Rs.ext (bX.trans e4) ps cK),s4,(ex.trans bX).trans e4,h4⟩⟩
   ·have e:i=xs.length:=by omega
    subst e
    rw [List.drop_length] at h
    exact .inl ⟨w2 _ ρ H ex (ym _),jo (by omega),λl hl=>Out.newList h rs cK hl⟩⟩
def sW:List ((Ai)×(Ai))->zm->Mo (List PV×List PV)
 | [],_,st=>.ok ([],[]) st
 | q::r,env,st=>(q.1 env st).bind λk aq=>(q.2 env aq).bind λx ay=>(sW r env ay).bind λz aS=>.ok (k::z.1,x::z.2) aS
inductive gT (X:Cx) (Er:XK):List (Option Expr)->List Expr->List ((Ai)×(Ai))->Prop
 | nil:gT X Er [] [] []
 | cons {k v:Expr} {fk fv:Ai} {ks:List (Option Expr)} {vs:List Expr} {fs:List ((Ai)×(Ai))} (hk:ME X Er k fk) (hv:ME X Er v fv) (hr:gT X Er ks vs fs):gT X Er (some k::ks) (v::vs) ((fk,fv)::fs)
def zqX:gT X Er [] [] []:=.nil
def ziT {k v:Expr}{fk fv:Ai}{ks:List (Option Expr)}{vs:List Expr}{fs:List ((Ai)×(Ai))}(hk:ME X Er k fk) (hv:ME X Er v fv) (hr:gT X Er ks vs fs):gT X Er (some k::ks) (v::vs) ((fk,fv)::fs):=.cons hk hv hr
theorem gT.pps:∀{ks:List (Option Expr)}{vs:List Expr}{fs:List ((Ai)×(Ai))},gT X Er ks vs fs->pX X pos ks vs (fs.map λq=>(tM X.K X.mg Er q.1,tM X.K X.mg Er q.2))
 | _,_,_,.nil=>Mw
 | _,_,_,.cons hk hv hr=>Mx hk hv hr.pps
def gT.len {ks:List (Option Expr)}{vs:List Expr}{fs:List ((Ai)×(Ai))}(h:gT X Er ks vs fs):ks.length=vs.length/\ks.length=fs.length/\ks.all (·.isSome)=true:=by
 induction h with
 | nil=>exact ⟨rfl,rfl,rfl⟩
 | cons hk hv hr ih=>exact ⟨by simp [ih.1],by simp [ih.2.1],by simpa using ih.2.2⟩
theorem Fg:∀{fs:List ((Ai)×(Ai))}{env:zm}{st:aa}{ρ:Ae}{H:Hp}{U:L2.St}{Q:List (V×V)->Hp->Prop},bg K mg ρ H env U->aX K mg ρ H st ->
  Out K mg ρ H (sW fs env st) (λah H' q bu=>q.1.length=fs.length->q.2.length=fs.length->∀ks vs,Rs K mg ah H' q.1 ks->Rs K mg ah H' q.2 vs->Q (ks.zip vs) H') Er->r8 (fs.map λq=>(tM K mg Er q.1,tM K mg Er q.2)) U H Q
 | [],env,st,ρ,H,U,Q,re,rs,h=>h.now rs rfl rfl [] [] rfl rfl
 | f::fs,env,st,ρ,H,U,Q,re,rs,h=>by
  refine ⟨env,st,ρ,re,rs,Out.then h λaf H1 k aq e1 s1 h1 v rv=>?_⟩
  refine ⟨env,aq,af,re.ext e1,s1,Out.then h1 λap H2 x ay e2 s2 h2 u ru=>?_⟩
  refine Fg (env:=env) (st:=ay) (ρ:=ap) ((re.ext e1).ext e2) s2 (Out.then h2 λaj H3 z aS e3 s3 h3 l1 l2 ks vs rk vX=>?_)
  exact h3.now s3 (by simp [l1]) (by simp [l2]) (v::ks) (u::vs) ⟨v,ks,rfl,R.ext e3 k (R.ext e2 k rv),rk⟩ ⟨u,vs,rfl,R.ext e3 x ru,vX⟩
def gU:List PV->Option (Ad)
 | []=>some []
 | .str z::r=>(gU r).map (z::·)
 | _::_=>none
theorem Fh {ρ:Ae}{H:Hp}:∀{xs:An}{zs:Ad}{vs:List V},gU xs=some zs->Rs K mg ρ H xs vs->vs=zs.map V.str
 | [],bs,vs,e,h=>by cases e;cases h;rfl
 | .str i::r,bs,vs,e,h=>by
  simp only [gU,Option.map_eq_some_iff] at e
  obtain ⟨ir,e1,rfl⟩:=e
  obtain ⟨v,r',rfl,h1,h2⟩:=h
  cases h1
  rw [Fh e1 h2]
  rfl
 | .non::_,_,_,e,_=>by cases e
 | .int _::_,_,_,e,_=>by cases e
 | .bl _::_,_,_,e,_=>by cases e
 | .ty _::_,_,_,e,_=>by cases e
 | .tup _::_,_,_,e,_=>by cases e
 | .frl _::_,_,_,e,_=>by cases e
 | .ref _::_,_,_,e,_=>by cases e
 | .fn _::_,_,_,e,_=>by cases e
 | .kd _ _::_,_,_,e,_=>by cases e
 | .exo _ _ _::_,_,_,e,_=>by cases e
def qD (fs:List ((Ai)×(Ai))):Ai:=λenv st=>(sW fs env (st++[.dic [] []])).bind λq aq=>match gU q.1 with
 | some zs=>if kq aq[st.length]?=true then .ok (.ref st.length) (aq.set st.length (.dic (ly (zs.zip q.2) [] []).1 (ly (zs.zip q.2) [] []).2)) else .stuck
 | none=>.stuck
theorem P_ {keys:List (Option Expr)}{values:List Expr}{fs:List ((Ai)×(Ai))}(h:gT X Er keys values fs) (h0:keys≠[]) (vM:keys.length<=15):ME X Er (.Dict keys values pos) (qD fs):=by
 obtain ⟨l1,l2,l4⟩:=h.len
 exact PE.weak (Mz h.pps l4 l1 h0 vM) λU H Q ⟨env,st,ρ,re,rs,ho⟩=>λp hp=>by
  have e0:Ext ρ H (ρ++[p]) (upd H p (.dK [])):=Ext.push hp
  have s0:aX X.K X.mg (ρ++[p]) (upd H p (.dK [])) (st++[.dic [] []]):=rs.push hp ⟨[],jf,rfl,rfl⟩
  have Qa:(ρ++[p])[st.length]?=some p:=by rw [<-rs.len];simp
  refine Fg (re.ext e0) s0 (Out.then (Out.ext ho e0) λaf H1 q aq e1 s1 h1 lk lv us vs ru rv=>?_)
  cases hk:gU q.1 with
  | none=>simp only [hk] at h1;exact h1.elim
  | some zs =>
   simp only [hk] at h1
   have eu:=Fh hk ru
   subst eu
   obtain ⟨c,h1⟩:=Out.ifp h1
   have hd:=Pp c
   have xR:=e1.get Qa
   obtain ⟨ws,k1,k2,k3⟩:=s1.addr hd xR
   have ew:ws=[]:=by cases ws with|nil=>rfl|cons=>simp at k3
   subst ew
   have lz:zs.length=fs.length:=by have:=ru.len;simpa [lk] using this.symm
   refine ⟨k1,(zs.map Sum.inr:List Key).zip vs,EF,by rw [List.length_zip,yI];omega,?_⟩
   have eq:Ext af H1 af (upd H1 p (.dK (eA [] ((zs.map Sum.inr:List Key).zip vs)))):=Ext.write k1 rfl
   obtain ⟨us,q1,q2,q3⟩:=En (K:=X.K) (mg:=X.mg) (zs:=zs) (ks:=[]) (xs:=[]) (vs:=[]) rv rfl rfl
   exact h1 af _ eq (s1.write xR eq ⟨us,by rw [jf];exact congrArg (λt=>some (HO.dK t)) q1,Rs.ext eq _ q2,q3⟩) _ ⟨p,rfl,xR⟩
end
section
variable {K:Frag}{mg:Ab}{h:Heap}
end
section
variable {X:Cx}{Er:XK}{K:Frag}{mg:Ab}
def call_len_dict:bQ X (.builtin "len") (λxs H Q=>∃p kvs,xs=[.ref p]/\H p=some (.dK kvs)/\Q (.int kvs.length) H):=by
 intro pins s U H xs us Q I r h
 obtain ⟨p,kvs,rfl,hp,q⟩:=h
 obtain ⟨u,rfl,rx⟩:=iu r
 cases rx
 exact Mq I (.inl hp) λt s' I'=>⟨.int kvs.length,H,I',⟨t,rfl⟩,q⟩
def yS:Al:=λxs st=>match xs with
 | [.ref n]=>match st[n]? with
  | some (.dic ks _)=>.ok (.int ks.length) st
  | _=>sF xs st
 | _=>sF xs st
def wn:cE X (.builtin "len") yS:=by
 obtain ⟨r,h1,h2⟩:=NG (X:=X)
 refine ⟨_,h1.or call_len_dict,fun ρ H st xs vs Q E s rx h=>?_⟩
 by_cases hx:∃n ks ys,xs=[.ref n]/\st[n]?=some (.dic ks ys)
 ·obtain ⟨n,ks,ys,rfl,e⟩:=hx
  have h:Out X.K X.mg ρ H (.ok (.int ks.length) st) (gV X.K X.mg Q) E:=by
   simpa only [yS,e] using h
  obtain ⟨v,rfl,rv⟩:=Rs.one rx
  obtain ⟨a,ws,rfl,_,k1,k2,k3⟩:=R.refD s rv e
  refine .inr ⟨a,_,rfl,k1,?_⟩
  have hl:(kz ks ws).length=ks.length:=by simp [kz,k3]
  rw [hl]
  exact Out.now (x:=PV.int ks.length) h s _ rfl
 ·refine .inl (h2 ρ H st xs vs Q E s rx ?_)
  have:yS xs st=sF xs st:=by
   unfold yS
   split
   ·rename_i n
    split
    ·rename_i ks ys e;exact absurd ⟨n,ks,ys,rfl,e⟩ hx
    ·rfl
   ·rfl
  rw [this] at h
  exact h
end
section
variable {α:Type}{env:zm}{st:aa}{fa fb fo fk fx:Ai}{fs:Ah}{g:Aj}
def Qb {n:Nat}{ks:Ad}{xs:An}(h:st[n]?=some (.dic ks xs)) (k:List Str->List PV->Res α):jS st n k=k ks xs:=by unfold jS;rw [h]
def Qc {n:Nat}{xs:An}(h:st[n]?=some (.lst xs)):gP [.ref n] st=.ok n st:=by
 show yi st n _=_
 rw [yr h]
def Qd {n:Nat}{bs:List Bool}(h:st[n]?=some (.lst (bs.map PV.bl))):mO [.ref n] st=.ok (.bl (bs.all id)) st:=by
 unfold mO
 rw [Qc h]
 simp only [zG]
 rw [yr h,Ff]
def w6 {n:Nat}{xs:An}(h:st[n]?=some (.lst xs)):yS [.ref n] st=.ok (.int xs.length) st:=by
 simp only [yS,h]
 show yi st n _=_
 rw [yr h]
@[simp] def sX (xs:An):yS [.tup xs] st=.ok (.int xs.length) st:=(rfl)
@[simp] def Wl (xs:An):yS [.frl xs] st=.ok (.int xs.length) st:=(rfl)
@[simp] def Qe (src:zm->Mo Sq):xQ src fa env st=(src env st).bind λq aq=>match uO q with|some xs=>if xs.length<=lim then wP fa env xs [] aq else .stuck|none=>.stuck:=(rfl)
end
end Mi
namespace L2
open PySem PySem.Spec PyProof.Rows PySem.W
section
variable {X:Cx}
def Qf (hc:X.calm=true):bQ X (.builtin "any") (λxs H Q=>∃(a:Addr) (bs:List Bool),xs=[.ref a]/\aQ X.K H a (bs.map V.bl)/\Q (.bl (bs.any id)) H):=by
 intro pins s U H xs us Q I r h
 obtain ⟨a,bs,rfl,hl,q⟩:=h
 obtain ⟨u,rfl,ru⟩:=iu r
 cases ru
 obtain ⟨its,rv,pl,hz⟩:=I.list hl
 have e:=vI rv
 subst e
 refine call_any_walk (wpAny_pyIter_list pl.isList ?_)
 have hh:X.A.in1.handled=none:=I.ok.hd hc
 have bj:a<s.heap.objs.size:=by
  obtain ⟨o,e,_⟩:=pl.isList
  exact yA e
 have mw:a≠s.heap.objs.size:=jb bj
 refine ⟨s.heap.objs.size,_,_,_,_,_,λi=>(bs[i]?).getD false,rfl,Walks.list hh s.heap.objs.size a mw (bs.map Value.bool).toArray,⟨⟨_,yW _ rfl,rfl,rfl⟩,pl.isList.at λo e=>yh _ e⟩,?_,λh' tk kk=>?_⟩
 ·intro i v s' Q' E' hp hq
  have hp':(bs.map Value.bool)[i]?=some v:=by simpa using hp
  rw [yM] at hp'
  cases eb:bs[i]? with
  | none=>rw [eb] at hp';cases hp'
  | some b =>
   rw [eb] at hp'
   have:Value.bool b=v:=Option.some.inj hp'
   subst this
   refine gg ?_
   dsimp only at hq
   rw [eb] at hq
   exact hq
 ·have e1:(List.range (bs.map Value.bool).toArray.size).any (λi=>(bs[i]?).getD false)=bs.any id:=by
   rw [yQ,yI]
   rw [Bool.eq_iff_iff,List.any_eq_true,List.any_eq_true]
   constructor
   ·rintro ⟨i,hi,hh⟩
    have i9:=gj.mp hi
    rw [yx i9] at hh
    exact ⟨_,wV i9,hh⟩
   ·rintro ⟨b,hb,hh⟩
    obtain ⟨i,hi,e⟩:=List.getElem_of_mem hb
    refine ⟨i,gj.mpr hi,?_⟩
    rw [yx hi,e]
    exact hh
  rw [e1]
  refine ⟨.bl (bs.any id),H,?_,rfl,q⟩
  exact I.kept (t':=tk) λb o e=>kk b o (λz=>by
   have z':b=s.heap.objs.size:=by simpa using z
   exact absurd (yA e) (by rw [z'];exact Nat.lt_irrefl _)) (yh _ e)
end
end L2
namespace Mi
open PySem L2 PySem.W PySem.Spec
section
variable {X:Cx}{Er:XK}{pos:Pos}{K:Frag}{mg:Ab}{fs:Ah}
def oH:Al:=λvs st=>(gP vs st).bind λn st=>yi st n λxs=>match cu xs with
 | some bs=>.ok (.bl (bs.any id)) st
 | none=>.stuck
def Qg (hc:X.calm=true):cE X (.builtin "any") oH:=⟨_,Qf hc,fun ρ H st xs vs Q E s r h=>by
 obtain ⟨n,ys,rfl,hn,h⟩:=sP h
 obtain ⟨c9,lT,h⟩:=jp h
 obtain ⟨v,rfl,rv⟩:=r.one
 obtain ⟨a,rfl,ha⟩:=rv
 obtain ⟨ws,hH,hR⟩:=s.addr lT ha
 cases hi:cu c9 with
 | none=>simp only [hi] at h;exact h.elim
 | some bs =>
  simp only [hi] at h
  have e:=xP hi hR
  subst e
  exact ⟨a,bs,rfl,aQ.of hH,Out.now (x:=PV.bl (bs.any id)) h s _ rfl⟩⟩
theorem Qh:bootBuiltins "any" = some (.builtin "any"):=by decide +kernel
end
end Mi
namespace PySem
open Sem (wp)
section
variable {prog:Program}{w:World}{A:Around}{s:Shared}{R:Result->Shared->Prop}
variable {I:Addr}{fp wr:Ae}{G:Array GenState->Array GenState->Prop}{n:Nat}{P:Nat->Value->Prop}{St:Nat->Shared->Prop}
end
section
variable {prog:Program}{w:World}{A:Around}{s:Shared}{R:Result->Shared->Prop}
variable {I:Addr}{fp wr:Ae}{G:Array GenState->Array GenState->Prop}{n:Nat}{P:Nat->Value->Prop}{St:Nat->Shared->Prop}
end
section
variable {prog:Program}{w:World}{A:Around}{E:Aa}{s:Shared}
variable {I:Addr}{fp wr:Ae}{G:Array GenState->Array GenState->Prop}{n:Nat}{P:Nat->Value->Prop}{St:Nat->Shared->Prop}
end
end PySem
namespace L2
open PySem PySem.Spec PyProof.Rows PySem.W
section
variable {X:Cx}
end
end L2
namespace Mi
open PySem L2 PySem.W PySem.Spec
section
variable {X:Cx}{Er:XK}{pos:Pos}{K:Frag}{mg:Ab}{fs:Ah}
end
section
variable {X:Cx}{Er:XK}{pos pos':Pos}{o i value:Expr}{fo fi fv:Ai}
def dO (z x:PV):PV->Mo Unit
 | .ref n,st=>match z with
  | .int (.ofNat k)=>yi st n λxs=>if k<xs.length then .ok () (st.set n (.lst (xs.set k x))) else .stuck
  | _=>.stuck
 | _,_=>.stuck
def mP (fo fi fv:Ai):Aj:=λenv st=>(fv env st).bind λx aq=>(fo env aq).bind λo ay=>(fi env ay).bind λz aS=>(dO z x o aS).bind λ_ ff=>.ok (.nx env) ff
theorem Rs.put {K:Frag}{mg:Ab}{ρ:Ae}{H:Hp}{x:PV}{v:V}(r:R K mg ρ H x v):∀{xs:An}{vs:List V}(k:Nat),Rs K mg ρ H xs vs->Rs K mg ρ H (xs.set k x) (vs.set k v)
 | [],_,k,h=>by cases h;cases k<;>rfl
 | y::ys,_,0,h=>by
  obtain ⟨w,q,rfl,h1,h2⟩:=h
  exact ⟨v,q,rfl,r,h2⟩
 | y::ys,_,k+1,h=>by
  obtain ⟨w,q,rfl,h1,h2⟩:=h
  exact ⟨w,_,rfl,h1,Rs.put r k h2⟩
theorem ziW (ho:ME X Er o fo) (hi:ME X Er i fi) (hv:ME X Er value fv)
  (ha:∀v,assign (.Subscript o i pos') X.env v=(do
   let ov <-holding [v] (eval o X.env)
   let iv <-holding [v,ov] (eval i X.env)
   standAt pos'
   holding [v,ov,iv] (setItem ov iv v)
   release [v,ov,iv] []):=by intro _;rfl)
  (hs:swapsWithSole [.Subscript o i pos'] value pos.line X.env=pure false:=by rfl) (hw:swappedStores [.Subscript o i pos'] value X.env=pure none:=by rfl)
  (h1:(assignEach [.Subscript o i pos'] X.env).map (·.2)=[assign (.Subscript o i pos') X.env]:=by rfl):MS X Er (.Assign [.Subscript o i pos'] value pos) (mP fo fi fv) :=
 PS.weak (Cq hv (J1 ho hi LJ ha) hs hw h1) λD U H ⟨env,st,ρ,re,rs,h⟩=>⟨env,st,ρ,re,rs,h.then λaf H1 x aq e1 s1 h1 v rv=>⟨env,aq,af,re.ext e1,s1,h1.then λap H2 y ay e2 s2 h2 w rw=>⟨env,ay,ap,(re.ext e1).ext e2,s2,h2.then λaj H3 zz aS e3 s3 h3 u ru=>by
  cases y with
  | ref n =>
   cases zz with
   | int z =>
    cases z with
    | ofNat k =>
     cases hn:aS[n]? with
     | none=>simp only [dO,yi,hn] at h3;exact h3.elim
     | some so =>
      cases so with
      | dic _ _=>simp only [dO,yi,hn] at h3;exact h3.elim
      | ins _ _ _=>simp only [dO,yi,hn] at h3;exact h3.elim
      | fdi _ _=>simp only [dO,yi,hn] at h3;exact h3.elim
      | dit _ _=>simp only [dO,yi,hn] at h3;exact h3.elim
      | lst xs =>
       simp only [dO,yi,hn] at h3
       by_cases hc:k<xs.length
       ·rw [zF hc] at h3
        obtain ⟨a,vs,e4,ha,k1,k2⟩:=R.refL s3 (R.ext e3 _ rw) hn
        subst e4
        cases ru
        have Qi:vs.length=xs.length:=k2.len.symm
        have ew:Ext aj H3 aj (upd H3 a (.lst (vs.set k v))):=Ext.write k1 rfl
        have Qj:iY vs.length (Int.ofNat k)=some k:=by
         unfold iY
         rw [zF (by show (0:Int)<=((k:Nat):Int);omega),zF (by rw [Qi];show ((k:Nat):Int)<xs.length;omega)]
         rfl
        refine ⟨a,vs,_,k,rfl,rfl,k1,Qj,h3 aj _ ew (s3.write ha ew ⟨vs.set k v,jf,Rs.ext ew _ (Rs.put (R.ext e3 x (R.ext e2 x rv)) k k2)⟩) U ((((re.ext e1).ext e2).ext e3).ext ew)⟩
       ·rw [zP hc] at h3;exact h3.elim
    | negSucc k=>exact h3.elim
   | _=>exact h3.elim
  | _=>exact h3.elim⟩⟩⟩
end
section
variable {X:Cx}
end
end Mi
namespace L2
open PySem PySem.Spec PyProof.Rows PySem.W
section
variable {prog:Program}{w:World}{A:Around}{E:Aa}{s:Shared}
end
section
variable {X:Cx}{pos:Pos}
end
end L2
namespace Mi
open PySem L2 PySem.W PySem.Spec
section
variable {X:Cx}{Er:XK}{pos:Pos}{e:Expr}{fa:Ai}
end
end Mi
namespace L2
open PySem PySem.Spec PyProof.Rows PySem.W
def Qk (it t:Addr) (xs:Array Value) (k:Nat) (h:Heap):Prop:=h.IsListIter it t k/\h.IsList t xs
def Fi {prog:Program}{w:World}{it t:Addr}{xs:Array Value}(ne:t≠it):kY prog w it t xs (Qk it t xs) where
 at_:=λ{k h h'} q k1 k2=>by
  obtain ⟨⟨o,ho,r⟩,⟨o',ho',r'⟩⟩:=q
  exact ⟨⟨o,k1 o ho,r⟩,⟨o',k2 o' ho',r'⟩⟩
 lt:=λq=>let ⟨⟨_,ho,_⟩,_⟩:=q;yA ho
 item:=λ{A E s k x Q} q hx hQ=>by
  obtain ⟨hit,ht⟩:=q
  obtain ⟨o,ho,hc,hd⟩:=id hit
  obtain ⟨ol,mx,_,nl,iC⟩:=id ht
  unfold Builtin.SmallTypes.nextOf
  refine zx (wpAny_callSpecial?_slot (name:=Str.ofString "__next__") hit.typeIs slot_listiter_next (j9 slot_listiter_next hit.typeIs entry_listiter_next ?_ (args_listiter_next _)))
  change wpAny _ _ (field (.ref it) 0 >>= _) _ _ s
  refine zx (jk ho hd (x:=.ref t) rfl ?_)
  rw [zP (by simp)]
  change wpAny _ _ (field (.ref it) 1 >>= _) _ _ s
  refine zx (jk ho hd (x:=.int k 0) rfl ?_)
  change wpAny _ _ (seqItems? (.ref t) >>= _) _ _ s
  refine zx (wpAny_seqItems mx iC ?_)
  simp only [hx,Int.toNat_natCast]
  have fl:=Obj.data_mapFields hd (·.setIfInBounds 1 (rawInt (k+1)))
  refine zx (wpAny_setField ho hd (by simp) (zZ ⟨x,rfl,zZ (hQ _ ⟨⟨_,Heap.get?_update_self _ ho (Obj.isFreed_of_fields fl),(Obj.cls_mapFields ..).trans hc,?_⟩,?_⟩ (Heap.SameBut.update ..))⟩))
  ·rw [fl];simp [rawInt]
  ·exact ht.at λo e=>(Heap.SameBut.update ..).extBut _ o ne e
 stop:=λ{A E s k Q} hh q hx hE=>by
  obtain ⟨hit,ht⟩:=q
  obtain ⟨o,ho,hc,hd⟩:=id hit
  obtain ⟨ol,mx,_,nl,iC⟩:=id ht
  unfold Builtin.SmallTypes.nextOf
  refine zx (wpAny_callSpecial?_slot (name:=Str.ofString "__next__") hit.typeIs slot_listiter_next (j9 slot_listiter_next hit.typeIs entry_listiter_next ?_ (args_listiter_next _)))
  change wpAny _ _ (field (.ref it) 0 >>= _) _ _ s
  refine zx (jk ho hd (x:=.ref t) rfl ?_)
  rw [zP (by simp)]
  change wpAny _ _ (field (.ref it) 1 >>= _) _ _ s
  refine zx (jk ho hd (x:=.int k 0) rfl ?_)
  change wpAny _ _ (seqItems? (.ref t) >>= _) _ _ s
  refine zx (wpAny_seqItems mx iC ?_)
  simp only [hx,Int.toNat_natCast]
  refine zx (lR (zx (wpAny_setField ho hd (by simp) ?_)))
  change wpAny _ _ (newExc (.type "StopIteration") [] >>= _) _ _ _
  refine zx ?_
  simp only [newExc,newTuple]
  refine zx (gf (zx (m:=firstArgMember _ _) (wpAny_of_eq (a:=Value.none) (by first|rfl|(simp only [firstArgMember];rfl)) (gf ?_ (by size_fits)))) (by size_fits))
  simp only [raiseNew]
  refine zx (wpAny_handled ?_)
  first|rw [show A.in1.handled=none from hh]|rw [hh]
  exact zx (zZ (wpAny_throw (hE _ _ (((Heap.SameBut.update ..).extBut.push _).push _) ⟨_,yW _ rfl,rfl⟩)))
def uP (K:Frag) (a b:Addr):It :=
 ⟨λi H=>∃xs ys x y,aQ K H a xs/\aW K H b ys/\xs[i]?=some x/\ys[i]?=some y,
  λi H v H'=>∃T x y,H T=none/\v=.ref T/\H'=upd H T (.tup [x,y])/\(∀xs,aQ K H a xs->xs[i]?=some x)/\∀ys,aW K H b ys->ys[i]?=some y,
  λi H=>∃xs ys,aQ K H a xs/\aW K H b ys/\(xs.length<=i\/ys.length<=i)⟩
def uQ (z TI TO i1 i2 a b:Addr) (k:Nat) (h:Heap):Prop:=IsZip h z TI TO .none/\IsPair h TI (.ref i1) (.ref i2)/\(∃u v,IsPair h TO u v)/\h.IsListIter i1 a k/\IsTupIter h i2 b k
def Ql {P:Program}{w:World}{K:Frag}{elts:List Expr}{kt:Nat}{pos:Pos}{z TI TO i1 i2 a b:Addr}(V5:uH z TI TO i1 i2):Turn P w K (.Tuple elts kt pos) (uP K a b) [z,TI,TO,i1,i2] z (uQ z TI TO i1 i2 a b) where
 mem:=by simp
 obj:=λi h st c hc=>by
  obtain ⟨hz,dk,⟨u,v,dz⟩,⟨o1,e1,_,d1⟩,⟨o2,e2,_,d2⟩⟩:=st
  simp only [yC,List.not_mem_nil,wt] at hc
  rcases hc with q|q|q|q|q<;>rw [q]
  ·exact ⟨_,hz,λv z=>by cases z⟩
  ·exact ⟨_,dk,λv z=>by cases z⟩
  ·exact ⟨_,dz,λv z=>by cases z⟩
  ·exact ⟨_,e1,λv z=>by rw [d1] at z;cases z⟩
  ·exact ⟨_,e2,λv z=>by rw [d2] at z;cases z⟩
 keep:=λi h h' st k=>by
  obtain ⟨hz,dk,⟨u,v,dz⟩,⟨o1,e1,r1⟩,⟨o2,e2,r2⟩⟩:=st
  exact ⟨k z (by simp) _ hz,k TI (by simp) _ dk,⟨u,v,k TO (by simp) _ dz⟩,⟨o1,k i1 (by simp) _ e1,r1⟩,⟨o2,k i2 (by simp) _ e2,r2⟩⟩
 item:=by
  intro X hP hw hK hc i pins s U H E I hf st hg
  subst hP hw hK
  obtain ⟨xs,ys,x,y,d0,dU,hx,hy⟩:=hg
  obtain ⟨hz,dk,⟨u0,v0,dz⟩,gI,j_⟩:=st
  obtain ⟨k7,my,p1,_⟩:=I.list d0
  obtain ⟨aL,mz,p2,_⟩:=I.tuple dU
  obtain ⟨u,hu,ru⟩:=my.get hx
  obtain ⟨v,hv,rv⟩:=mz.get hy
  have n1:∀c∈[z,TI,TO,i1,i2],a≠c:=λc h=>xA I (hf c h) d0
  have n2:∀c∈[z,TI,TO,i1,i2],b≠c:=λc h=>kZ I (hf c h) dU
  have D:ZipApart z TI TO i1 i2 a b:=⟨V5.TIz,V5.TOz,V5.i1z,V5.i2z,V5.TITO,V5.TIi1,V5.TIi2,V5.TOi1,V5.TOi2,V5.i12,n1 z (by simp),n1 TO (by simp),n1 i1 (by simp),n1 i2 (by simp),n2 z (by simp),n2 TO (by simp),n2 i1 (by simp),n2 i2 (by simp)⟩
  have hT:s.TypeIs (.ref z) "zip" := ⟨_,hz,rfl⟩
  unfold pyNext
  refine zx (wpAny_attempt (wpAny_callSpecial?_slot (name:=Str.ofString "__next__") hT F.slot_zip_next (j9 F.slot_zip_next hT F.entry_zip_next
   (DH D (Fi D.l1i1) (gH D.l2i2) hz dk dz ⟨gI,p1.isList⟩ ⟨j_,p2⟩ (by simpa using hu) (by simpa using hv) λh1 z1 o1 f1 f2 pT kk=>zZ ⟨_,rfl,?_⟩) (F.args_zip_next_1 _))))
  refine wpAny_letOwnedTupleGo_zip (s:={ s with heap:=h1 }) z1 λh2 z2 e2=>?_
  have fr:H s.heap.objs.size=none:=I.hok.fresh (ym _)
  have up:∀c o,c≠z->h1.get? c=some o->h2.get? c=some o:=λc o n e=>e2.extBut _ _ n e
  have nz:s.heap.objs.size≠z:=Nat.ne_of_gt (yA hz)
  have k2:∀c o,c∉[z,TI,TO,i1,i2]->s.heap.get? c=some o->h2.get? c=some o:=λc o nc e =>
   up c o (λq=>nc (by simp [q])) (kk c o (λq=>nc (by simp [q])) (λq=>nc (by simp [q])) (λq=>nc (by simp [q])) (λq=>nc (by simp [q])) e)
  refine ⟨.ref s.heap.objs.size,upd H s.heap.objs.size (.tup [x,y]),?_,rfl,⟨s.heap.objs.size,x,y,fr,rfl,rfl,λc9 h'=>by rw [I.list_inj h' d0];exact hx,λke h'=>by rw [I.tuple_inj h' dU];exact hy⟩,?_,λc cw=>?_⟩
  ·exact Inv.turnN (s:=s) (h':=h2) (t':=s.toks) I hf k2 (ym _) ⟨show 2<=sizeLine by decide,[u,v],.cons ru (.cons rv .nil),_,up _ _ nz pT,rfl,_,rfl⟩
  ·exact ⟨z2,up _ _ D.TIz (kk _ _ D.TIz D.TITO D.TIi1 D.TIi2 dk),⟨_,_,up _ _ D.TOz o1⟩,(let ⟨o,e,r⟩:=f1.1;⟨o,up _ _ D.i1z e,r⟩),(let ⟨o,e,r⟩:=f2.1;⟨o,up _ _ D.i2z e,r⟩)⟩
  ·have q:c≠s.heap.objs.size:=by
    have lt:∃o,s.heap.get? c=some o:=by
     simp only [yC,List.not_mem_nil,wt] at cw
     rcases cw with q|q|q|q|q<;>rw [q]
     ·exact ⟨_,hz⟩
     ·exact ⟨_,dk⟩
     ·exact ⟨_,dz⟩
     ·exact let ⟨o,e,_⟩:=gI;⟨o,e⟩
     ·exact let ⟨o,e,_⟩:=j_;⟨o,e⟩
    obtain ⟨o,e⟩:=lt
    exact jb (yA e)
   rw [yE q]
   exact (hf c cw).1
 done:=by
  intro X hP hw hK hc i pins s U H E I hf st hg
  subst hP hw hK
  obtain ⟨xs,ys,d0,dU,hx⟩:=hg
  obtain ⟨hz,dk,⟨u0,v0,dz⟩,gI,j_⟩:=st
  obtain ⟨k7,my,p1,_⟩:=I.list d0
  obtain ⟨aL,mz,p2,_⟩:=I.tuple dU
  have l1:=my.length
  have l2:=mz.length
  have n1:∀c∈[z,TI,TO,i1,i2],a≠c:=λc h=>xA I (hf c h) d0
  have n2:∀c∈[z,TI,TO,i1,i2],b≠c:=λc h=>kZ I (hf c h) dU
  have D:ZipApart z TI TO i1 i2 a b:=⟨V5.TIz,V5.TOz,V5.i1z,V5.i2z,V5.TITO,V5.TIi1,V5.TIi2,V5.TOi1,V5.TOi2,V5.i12,n1 z (by simp),n1 TO (by simp),n1 i1 (by simp),n1 i2 (by simp),n2 z (by simp),n2 TO (by simp),n2 i1 (by simp),n2 i2 (by simp)⟩
  have hT:s.TypeIs (.ref z) "zip" := ⟨_,hz,rfl⟩
  unfold pyNext
  refine zx (wpAny_attempt (wpAny_callSpecial?_slot (name:=Str.ofString "__next__") hT F.slot_zip_next (j9 F.slot_zip_next hT F.entry_zip_next
   (DI (I.ok.hd hc) D (Fi D.l1i1) (gH D.l2i2) hz dk dz ⟨gI,p1.isList⟩ ⟨j_,p2⟩ (hx.imp (λh=>by simp;omega) λh=>by simp;omega) λh1 e kk he=>?_) (F.args_zip_next_1 _))))
  obtain ⟨o,ho,vU⟩:=he
  refine zx (wpAny_isInstance (T := "StopIteration") (b:=true) ⟨o,ho,vU⟩ isSubtype_stop ?_)
  exact zZ ⟨rfl,Inv.turnL (t':=s.toks) I hf λc o nc e=>kk c o (λq=>nc (by simp [q])) (λq=>nc (by simp [q])) (λq=>nc (by simp [q])) (λq=>nc (by simp [q])) e⟩
 self:=λ_ _ _ _ _ st h=>wpAny_pyIter_zip st.1 h
abbrev sY (h:Heap) (a:Addr):Heap:=h.push { cls:=.type "list_iterator", data:=.fields #[.ref a,.int 0 0] }
abbrev sZ (h:Heap) (a b:Addr):Heap:=(sY h a).push { cls:=.type "tuple_iterator", data:=.fields #[.ref b,.int 0 0] }
abbrev tf (h:Heap) (a b:Addr):Heap:=(sZ h a b).push { cls:=.type "tuple", data:=.seq #[.ref h.objs.size,.ref (sY h a).objs.size] }
abbrev tj (h:Heap) (a b:Addr):Heap:=(tf h a b).push { cls:=.type "tuple", data:=.seq #[.none,.none] }
abbrev ku (h:Heap) (a b:Addr):Heap:=(tj h a b).push { cls:=.type "zip", data:=.fields #[.none,.bool false,.bool false,.ref (sZ h a b).objs.size,.ref (tf h a b).objs.size] }
def Qm (a b:Addr) (xs ys:Array Value) :
  Meets (Builtin.«zip.__new__» ⟨[.type "zip", .ref a,.ref b],[]⟩) (λ_ R s=>s.heap.IsList a xs/\IsTup s.heap b ys/\R (.ok (.ret (.ref (tj s.heap a b).objs.size))) { s with heap:=ku s.heap a b }) :=
 .of_wp λprog w A R s h=>by
  obtain ⟨hp,g,d,tk,os⟩:=s
  obtain ⟨h1,h2,h⟩:=h
  have uI:=sub_zip
  have H1:Heap.IsList (Shared.heap ⟨hp,g,d,tk,os⟩) a xs:=h1
  have H2:IsTup (Shared.heap ⟨hp.push { cls:=.type "list_iterator", data:=.fields #[.ref a,.int 0 0] },g,d,tk,os⟩) b ys:=h2.push _
  wp_walk using wpAny_pyIter_list H1,iter_tuple H2
  exact ⟨_,rfl,h⟩
section
variable {prog:Program}{w:World}{A:Around}{E:Aa}{s:Shared}
def Qn {a b:Addr}{xs ys:Array Value}{Q:Aa}(h1:s.heap.IsList a xs) (h2:IsTup s.heap b ys)
  (h:uQ (s.heap.objs.size+4) (s.heap.objs.size+2) (s.heap.objs.size+3) s.heap.objs.size (s.heap.objs.size+1) a b 0 (ku s.heap a b)->Q (.ref (s.heap.objs.size+4)) { s with heap:=ku s.heap a b }) :
  wpAny (model prog w) A (call (.type "zip") [.ref a,.ref b]) Q E s:=by
 refine callType_new F.called_zip (by decide) (F.typeCall_zip_2 _ _) (F.newCall_zip_2 _ _) (λobj=>F.args_object_init_3 obj _ _) F.entry_zip_new (Qm a b xs ys) ⟨h1,h2,?_⟩
 have z1:(sY s.heap a).objs.size=s.heap.objs.size+1:=Heap.size_push ..
 have z2:(sZ s.heap a b).objs.size=s.heap.objs.size+2:=by rw [Heap.size_push,z1]
 have z3:(tf s.heap a b).objs.size=s.heap.objs.size+3:=by rw [Heap.size_push,z2]
 have z4:(tj s.heap a b).objs.size=s.heap.objs.size+4:=by rw [Heap.size_push,z3]
 have g5:(ku s.heap a b).get? (tj s.heap a b).objs.size=some _:=yW _ rfl
 have g4:(ku s.heap a b).get? (tf s.heap a b).objs.size=some _:=yh _ (yW _ rfl)
 have g3:(ku s.heap a b).get? (sZ s.heap a b).objs.size=some _:=yh _ (yh _ (yW _ rfl))
 have g2:(ku s.heap a b).get? (sY s.heap a).objs.size=some _:=yh _ (yh _ (yh _ (yW _ rfl)))
 have g1:(ku s.heap a b).get? s.heap.objs.size=some _:=yh _ (yh _ (yh _ (yh _ (yW _ rfl))))
 show _/\_
 rw [z2,z3,z4] at g5
 rw [z1,z2] at g3
 rw [z3] at g4
 rw [z1] at g2
 rw [z4]
 exact ⟨⟨_,g5,rfl⟩,h ⟨g5,g3,⟨_,_,g4⟩,⟨_,g1,rfl,rfl⟩,⟨_,g2,rfl,rfl⟩⟩⟩
end
def Qo (K:Frag) (ta:TA):TI:=λU H R=>ta U H λvs H1=>∃a b,vs=[.ref a,.ref b]/\(∃xs,aQ K H1 a xs)/\(∃ys,aW K H1 b ys)/\R (uP K a b) H1
def Qp {X:Cx} {elts:List Expr} {kt:Nat} {tp:Pos} {x y:Expr} {ta:TA} {p pos:Pos} (hg:Gl X "zip") (hm:X.mg "zip" = none) (ha:PA X [x,y] ta) (hs:starEach [x,y] X.env=[(false,eval x X.env),(false,eval y X.env)]:=by rfl) (fW:starEach [y] X.env=[(false,eval y X.env)]:=by rfl) :
  PI X (.Tuple elts kt tp) (.Call (.Name "zip" p) [x,y] [] pos) (Qo X.K ta):=by
 intro pins s U H R I h
 refine Call_ (kM I hg hm DL (PyProof.Rows.callWith_type1 (aP (ha pos pins s U H _ I h) λus s1 ⟨vs,H1,I1,r1,q1⟩=>?_) (by rw [hs,fW]) (by rw [fW];rfl)))
 obtain ⟨a,b,e,⟨xs,d0⟩,⟨ys,dU⟩,q⟩:=q1
 subst e
 obtain ⟨u,v,rfl,ru,rv⟩:=vj r1
 obtain rfl:u=Value.ref a:=ru
 obtain rfl:v=Value.ref b:=rv
 obtain ⟨k7,_,p1,_⟩:=I1.list d0
 obtain ⟨aL,_,p2,_⟩:=I1.tuple dU
 refine Qn p1.isList p2 λst=>wpAny_pyIter_zip st.1 ?_
 have kk:∀c o,s1.heap.get? c=some o->(ku s1.heap a b).get? c=some o:=λc o e=>yh _ (yh _ (yh _ (yh _ (yh _ e))))
 refine ⟨_,[s1.heap.objs.size+4,s1.heap.objs.size+2,s1.heap.objs.size+3,s1.heap.objs.size,s1.heap.objs.size+1],_,_,H1,rfl,I1.kept (t':=s1.toks) kk,Ql ?_,st,λc hc=>?_,q⟩
 ·have ne:∀(n i j:Nat),i≠j->n+i≠n+j:=λn i j h z=>h (Nat.add_left_cancel z)
  have kg:∀(n i:Nat),i≠0->n+i≠n:=λn i h z=>h (by omega)
  exact ⟨ne _ 2 4 (by decide),ne _ 3 4 (by decide),(kg _ 4 (by decide)).symm,ne _ 1 4 (by decide),ne _ 2 3 (by decide),kg _ 2 (by decide),ne _ 2 1 (by decide),kg _ 3 (by decide),ne _ 3 1 (by decide),(kg _ 1 (by decide)).symm⟩
 ·have le:s1.heap.objs.size<=c:=by
   simp only [yC,List.not_mem_nil,wt] at hc
   rcases hc with q|q|q|q|q<;>rw [q]<;>first|exact ym _|exact Nat.le_add_right _ _
  exact I1.fpOk le (I1.hok.fresh le)
end L2
namespace Mi
open PySem L2 PySem.W PySem.Spec
section
variable {X:Cx}{Er:XK}{pos:Pos}{dX:List Stmt}{gb:Aj}{fs:Ah}
def gW (g:PV->zm->Option zm) (body:Aj) (n:Nat) (ys:An):Nat->Nat->Aj
 | 0,_,_,_=>.stuck
 | m+1,i,env,st=>yi st n λxs=>match xs[i]?,ys[i]? with
  | some x,some y=>match g (.tup [x,y]) env with
   | none=>.stuck
   | some bK=>(body bK st).bind λfl ay=>match fl with
    | .nx e=>gW g body n ys m (i+1) e ay
    | .ct e=>gW g body n ys m (i+1) e ay
    | .bk e=>.ok (.nx e) ay
    | .rt v=>.ok (.rt v) ay
  | _,_=>.ok (.nx env) st
def mQ (vs:An) (st:aa) (f:Nat->List PV->Res Fl):Res Fl:=match vs with
 | [.ref n,.tup ys]=>yi st n λ_=>f n ys
 | _=>.stuck
def Qq {K:Frag}{mg:Ab}{ρ:Ae}{H:Hp}{vs:An}{st:aa}{f:Nat->List PV->Res Fl}{good:List Addr->Hp->Fl->aa->Prop}(h:Out K mg ρ H (mQ vs st f) good Er):∃n xs ys,vs=[.ref n,.tup ys]/\st[n]?=some (.lst xs)/\Out K mg ρ H (f n ys) good Er:=by
 unfold mQ at h
 split at h
 ·obtain ⟨xs,hn,h⟩:=jp h
  exact ⟨_,xs,_,rfl,hn,h⟩
 ·exact h.elim
def qE (fs:Ah) (g:PV->zm->Option zm) (body:Aj):Aj:=λenv st=>(fs env st).bind λvs aq=>mQ vs aq λn ys=>gW g body n ys (lim+1) 0 env aq
def Qr {elts:List Expr} {kt:Nat} {tp p ip:Pos} {x y:Expr} {gt:PV->zm->Option zm} (hp:PassesOwn (model X.prog X.w) X.A X.env X.xe) (hc:X.calm=true) (hm:X.mg "zip" = none) (ha:MA X Er [x,y] fs) (hg:MG X Er (.Tuple elts kt tp) gt) (hb:e_ X Er dX gb)
  (qt:Gl X "zip" := by rfl) (cC:starEach [x,y] X.env=[(false,eval x X.env),(false,eval y X.env)]:=by rfl) (fW:starEach [y] X.env=[(false,eval y X.env)]:=by rfl) (hs:∀v,foldedSetIterable (.Call (.Name "zip" p) [x,y] [] ip) X.env v=pure v:=by intro _;rfl) :
  MS X Er (.For (.Tuple elts kt tp) (.Call (.Name "zip" p) [x,y] [] ip) dX [] pos) (qE fs gt gb) :=
 PS.weak (vi hp hc (Qp qt hm ha cC fW) hg hb hs) λD U H ⟨env,st,ρ,re,rs,h⟩=>⟨env,st,ρ,re,rs,h.then λar H0 vs dD e0 s0 h0 us ru=>by
  obtain ⟨n,om,ys,rfl,xB,h0⟩:=Qq h0
  obtain ⟨v,w,rfl,rv,b,ws,rfl,k3,k4⟩:=Rs.two ru
  obtain ⟨a,rfl,ha⟩:=rv
  obtain ⟨oh,xC,xD⟩:=s0.addr xB ha
  refine ⟨a,b,rfl,⟨_,aQ.of xC⟩,⟨ws,k3⟩,?_⟩
  refine ⟨λi m U H=>∃env st ρ,bg X.K X.mg ρ H env U/\aX X.K X.mg ρ H st/\Ext ar H0 ρ H/\ρ[n]?=some a/\Out X.K X.mg ρ H (gW gt gb n ys m i env st) (gS X.K X.mg D) Er,⟨lim+1,env,dD,ar,re.ext e0,s0,Ext.refl,ha,h0⟩,?_⟩
  rintro i m U H ⟨env,st,ρ,re,rs,tm,ha,h⟩
  have qF:=tm.sqT k3
  have Fj:=Rs.ext tm ys k4
  cases m with
  | zero=>exact h.elim
  | succ m =>
   obtain ⟨xs,hn,h⟩:=jp h
   obtain ⟨vs,hH,hR⟩:=rs.addr hn ha
   cases hx:xs[i]? with
   | none =>
    simp only [hx] at h
    have:vs.length<=i:=by rw [<-hR.len];exact kJ.mp hx
    exact .inl ⟨⟨vs,ws,aQ.of hH,qF,.inl this⟩,Out.now (x:=Fl.nx env) h rs U re⟩
   | some x =>
    cases hy:ys[i]? with
    | none =>
     simp only [hx,hy] at h
     have:ws.length<=i:=by rw [<-Fj.len];exact kJ.mp hy
     exact .inl ⟨⟨vs,ws,aQ.of hH,qF,.inr this⟩,Out.now (x:=Fl.nx env) h rs U re⟩
    | some y =>
    simp only [hx,hy] at h
    obtain ⟨v,hv,rv⟩:=hR.get hx
    obtain ⟨w,hw,dy⟩:=Fj.get hy
    refine .inr ⟨⟨vs,ws,v,w,aQ.of hH,qF,hv,hw⟩,_,λai H' p'=>⟨m,wv m,p'⟩,λv' H' yl=>?_⟩
    obtain ⟨T,x',y',hT,rfl,rfl,y1,y2⟩:=yl
    have e2:=y1 vs (aQ.of hH)
    rw [hv] at e2
    cases e2
    have e3:=y2 ws qF
    rw [hw] at e3
    cases e3
    have ex:Ext ρ H ρ (upd H T (.tup [v,w])):=Ext.new hT
    cases hgx:gt (.tup [x,y]) env with
    | none=>simp only [hgx] at h;exact h.elim
    | some bK =>
     simp only [hgx] at h
     refine ⟨.tup [x,y],env,bK,ρ,⟨T,[v,w],rfl,.inl (.inl jf),_,_,rfl,R.ext ex x rv,_,_,rfl,R.ext ex y dy,rfl⟩,re.ext ex,hgx,λav r1=>⟨bK,st,ρ,r1,rs.new hT,Out.then (Out.ext h ex) λaj H3 fl aS e3 s3 h3=>?_⟩⟩
     cases fl with
     | nx e=>exact λaA r4=>⟨e,aS,aj,r4,s3,tm.trans (ex.trans e3),e3.get ha,h3⟩
     | ct e=>exact λaA r4=>⟨e,aS,aj,r4,s3,tm.trans (ex.trans e3),e3.get ha,h3⟩
     | bk e=>exact Out.fl (D:=D) (fl:=.nx e) (E:=Er) h3 s3
     | rt v=>exact Out.fl (D:=D) (fl:=.rt v) (E:=Er) h3 s3⟩
end
end Mi
namespace L2
open PySem PySem.Spec PyProof.Rows PySem.W
section
variable {prog:Program}{w:World}{A:Around}{E:Aa}{s:Shared}
end
end L2
namespace Mi
open PySem L2 PySem.W PySem.Spec
section
variable {X:Cx}
end
end Mi
namespace L2
open PySem PySem.Spec PyProof.Rows PySem.W
end L2
namespace Mi
open PySem L2 PySem.W PySem.Spec
section
variable {X:Cx}{Er:XK}{pos:Pos}
def fF (ft:Ak) (fe:Ai) (env:zm):List PV->Al
 | [],ys,st=>.ok (.ref st.length) (st++[.lst ys])
 | x::xs,ys,st=>(cS (ft (some x::env) st)).bind λb aq=>if b=true then (cS (fe (some x::env) aq)).bind λy ay=>fF ft fe env xs (ys++[y]) ay else fF ft fe env xs ys aq
def dP (ft:Ak) (fe:Ai) (env:zm) (n:Nat):Nat->Nat->Al
 | 0,_,_,_=>.stuck
 | m+1,i,ys,st=>yi st n λxs=>match xs[i]? with
  | none=>.ok (.ref st.length) (st++[.lst ys])
  | some x=>(cS (ft (some x::env) st)).bind λb aq=>if b=true then (cS (fe (some x::env) aq)).bind λy ay=>dP ft fe env n m (i+1) (ys++[y]) ay else dP ft fe env n m (i+1) ys aq
def nO (ft:Ak) (fe:Ai) (env:zm):Sq->Mo PV
 | .im xs,st=>if xs.length<=lim then fF ft fe env xs [] st else .stuck
 | .rf n,st=>dP ft fe env n (lim+1) 0 [] st
def lC (src:zm->Mo Sq) (ft:Ak) (fe:Ai):Ai:=λenv st=>(src env st).bind λq aq=>nO ft fe env q aq
theorem Qs {src:zm->Mo Sq}{ft:Ak}{fe:Ai}(U:L2.St) (H:Hp) (Q:VK) (hh:tM X.K X.mg Er (lC src ft fe) U H Q):vx (Fc X Er src) (wX 0) (oj X.K X.mg XN ft) (tM X.K X.mg XN fe) 1 U H Q:=by
 obtain ⟨env,st,ρ,re,rs,h⟩:=hh
 refine ⟨env,st,ρ,re,rs,h.then λar H0 q dD e0 s0 h0 J wk=>?_⟩
 cases q with
 | im xs =>
  obtain ⟨hl,h0⟩:=Out.ifp h0
  obtain ⟨w1,w2,w3⟩:=wk
  refine ⟨λi m ys H=>m=xs.length-i/\i<=xs.length/\ys.length<=i/\∃ps st ρ,Rs X.K X.mg ρ H ps ys/\aX X.K X.mg ρ H st/\Ext ar H0 ρ H/\Out X.K X.mg ρ H (fF ft fe env (xs.drop i) ps st) (gV X.K X.mg Q) Er,⟨xs.length,by simp,jB _,jB _,[],dD,ar,rfl,s0,Ext.refl,h0⟩,?_⟩
  rintro i m ys H ⟨rfl,hi,hy,ps,st,ρ,cK,rs,ex,h⟩
  by_cases bj:i<xs.length
  ·refine .inr ⟨w1 i ρ H ex bj,jo (by omega),λv H' y=>?_⟩
   obtain ⟨x,hx,bX,s2,rx⟩:=w3 i ρ H st v H' ex rs bj y
   have hd:xs.drop i=x::xs.drop (i+1):=by
    rw [wa bj]
    have:=(yt.mp hx).2
    rw [this]
   rw [hd] at h
   simp only [fF] at h
   have iM:bg X.K X.mg ρ H' (some x::env) (some v::U):=(re.ext (e0.trans (ex.trans bX))).cons rx
   refine ⟨[some v],rfl,rfl,some x::env,st,ρ,iM,s2,gO (Out.ext h bX) λaj H3 b aS e3 s3 h3=>?_⟩
   cases b with
   | true=>exact ⟨_,aS,aj,iM.ext e3,s3,gO h3 λaE H4 y ff e4 s4 h4 v4 r4=>⟨xs.length-(i+1),by omega,rfl,bj,by simp;omega,ps++[y],ff,aE,Rs.snoc r4 (Rs.ext ((bX.trans e3).trans e4) ps cK),s4,((ex.trans bX).trans e3).trans e4,h4⟩⟩
   | false=>exact ⟨xs.length-(i+1),by omega,rfl,bj,by omega,ps,aS,aj,Rs.ext (bX.trans e3) ps cK,s3,(ex.trans bX).trans e3,h3⟩
  ·have e:i=xs.length:=by omega
   subst e
   rw [List.drop_length] at h
   exact .inl ⟨w2 _ ρ H ex (ym _),jo (by omega),λl hl=>Out.newList h rs cK hl⟩
 | rf n =>
  obtain ⟨a,ha,rfl⟩:=wk
  refine ⟨λi m ys H=>m+i=lim+1/\ys.length<=i/\∃ps st ρ,Rs X.K X.mg ρ H ps ys/\aX X.K X.mg ρ H st/\Ext ar H0 ρ H/\ρ[n]?=some a/\Out X.K X.mg ρ H (dP ft fe env n m i ps st) (gV X.K X.mg Q) Er,⟨lim+1,rfl,jB _,[],dD,ar,rfl,s0,Ext.refl,ha,h0⟩,?_⟩
  rintro i m ys H ⟨hm,hy,ps,st,ρ,cK,rs,ex,ha,h⟩
  cases m with
  | zero=>exact h.elim
  | succ m =>
   obtain ⟨xs,hn,h⟩:=jp h
   obtain ⟨vs,hH,hR⟩:=rs.addr hn ha
   cases hx:xs[i]? with
   | none =>
    simp only [hx] at h
    have:vs.length<=i:=by rw [<-hR.len];exact kJ.mp hx
    exact .inl ⟨⟨vs,aQ.of hH,this⟩,jo (by omega),λl hl=>Out.newList h rs cK hl⟩
   | some x =>
    simp only [hx] at h
    obtain ⟨v,hv,rv⟩:=hR.get hx
    refine .inr ⟨⟨vs,v,aQ.of hH,hv⟩,jo (by omega),λv' H' y=>?_⟩
    obtain ⟨e1,y⟩:=y
    subst e1
    have e2:=y vs (aQ.of hH)
    rw [hv] at e2
    cases e2
    have iM:bg X.K X.mg ρ H' (some x::env) (some v::U):=(re.ext (e0.trans ex)).cons rv
    refine ⟨[some v],rfl,rfl,some x::env,st,ρ,iM,rs,gO h λaj H3 b aS e3 s3 h3=>?_⟩
    cases b with
    | true=>exact ⟨_,aS,aj,iM.ext e3,s3,gO h3 λaE H4 y ff e4 s4 h4 v4 r4=>⟨m,wv m,by omega,by simp;omega,ps++[y],ff,aE,Rs.snoc r4 (Rs.ext (e3.trans e4) ps cK),s4,(ex.trans e3).trans e4,e4.get (e3.get ha),h4⟩⟩
    | false=>exact ⟨m,wv m,by omega,by omega,ps,aS,aj,Rs.ext e3 ps cK,s3,ex.trans e3,e3.get ha,h3⟩
def Fm {elt iter c:Expr} {x:Str} {px:Pos} {scope:Scope} {src:zm->Mo Sq} {ft:Ak} {fe:Ai} {N:Ad} (hc:X.calm=true) (S:du X.env.scope scope [x]) (eN:X.N=N) (cD:((".0" : Str)::([x]++N)).Nodup)
  (hi:MI X Er (.Name x px) iter src) (l8:∀cl C ae ag fp,MT (eE X scope cl [x] C ae ag fp (λ_ _=>False)) XN c ft) (he:∀cl C ae ag fp,ME (eE X scope cl [x] C ae ag fp (λ_ _=>False)) XN elt fe)
  (hx:scope.names.lookup x=some .local:=by rfl) (hs:∀v,foldedSetIterable iter X.env v=pure v:=by intro _;rfl):ME X Er (.ListComp elt [⟨.Name x px,iter,[c],0⟩] scope pos) (lC src ft fe):=by
 have hN:([x]++X.N).Nodup:=by rw [eN];exact (jH.mp cD).2
 have gF:∀cl C ae ag fp E,PG (eE X scope cl [x] C ae ag fp E) (.Name x px) (wX 0):=λcl C ae ag fp E=>ik (X:=eE X scope cl [x] C ae ag fp E) (i:=0) hN rfl (.inl (wB hx)) (.inr (wB hx))
 exact PE.weak (vG (te:=tM X.K X.mg XN fe) (tt:=oj X.K X.mg XN ft) hc S eN cD hi gF (λcl C ae ag fp=>Dj (l8 cl C ae ag fp)) (λcl C ae ag fp=>he cl C ae ag fp) hs) λU H Q hh=>Qs U H Q hh
@[simp] def Fo {src:zm->Mo Sq}{ft:Ak}{fe:Ai}(env:zm) (st:aa):lC src ft fe env st=(src env st).bind λq aq=>nO ft fe env q aq:=(rfl)
end
section
variable {K:Frag}{h:Heap}{mg:Ab}{od:Option Addr}{f:Addr}
end
section
variable {X:Cx}{Er:XK}{pos:Pos}
end
section
variable {X:Cx}{Er:XK}{pos:Pos}
end
section
variable {X:Cx}{Er:XK}{pos pos':Pos}{o i value:Expr}{fo fi fv:Ai}
end
end Mi
namespace L2
open PySem PySem.Spec PyProof.Rows PySem.W
section
variable {X:Cx}
end
end L2
namespace Mi
open PySem L2 PySem.W PySem.Spec
section
variable {X:Cx}{Er:XK}
end
section
variable {X:Cx}{K:Frag}{mg:Ab}
end
end Mi
namespace Mi
open PySem L2 PySem.W
section
variable {α:Type}{g g':Aj}{f fa fb fc:Ai}{fs:Ah}{t ta tb:Ak}{e e1:zm}{st s1 s2 s3:aa}{x y v:PV}{xs:An}{b:Bool}
def zB {X:Res Fl}(h:g e st=.ok (.nx e1) s1) (h':g' e1 s1=X):zw g g' e st=X:=by rw [Eb,h,zG,OJ,h']
def jV (h:g e st=.ok (.rt v) s1):zw g g' e st=.ok (.rt v) s1:=by rw [Eb,h,zG,OK]
def zN {i:Nat}(h:f e st=.ok v s1):zH i f e st=.ok (.nx (e.set i (some v))) s1:=by rw [OL,h,zG]
def jW (h:f e st=.ok v s1):yK f e st=.ok (.nx e) s1:=by rw [OM,h,zG]
def yn (h:f e st=.ok v s1):yb f e st=.ok (.rt v) s1:=by rw [OO,h,zG]
def yR {X:Res Fl}(h:t e st=.ok true s1) (h':g e s1=X):zY t g g' e st=X:=by rw [Ec,h,zG,zF rfl,h']
def xS {X:Res Fl}(h:t e st=.ok false s1) (h':g' e s1=X):zY t g g' e st=X:=by rw [Ec,h,zG,zP (by simp),h']
def yD (h:t e st=.ok false s1):zY t g yd e st=.ok (.nx e) s1:=xS h (OI ..)
def zf {i:Nat}(h:e[i]?=some (some v)):zc i e st=.ok v st:=by rw [Ot,h]
def zp {op:Am}{X:Res PV}(h:fa e st=.ok x s1) (h':fb e s1=.ok y s2) (h2:op x y s2=X):ze op fa fb e st=X:=by rw [Ou,h,zG,h',zG,h2]
def qG {op:PV->Mo PV}{X:Res PV}(h:fa e st=.ok x s1) (h2:op x s1=X):jZ op fa e st=X:=by rw [Ov,h,zG,h2]
def zE {m:Al}{X:Res PV}(h:fs e st=.ok xs s1) (h2:m xs s1=X):zu m fs e st=X:=by rw [OE,h,zG,h2]
def wQ (h:f e st=.ok x s1) (h':fs e s1=.ok xs s2):zd f fs e st=.ok (x::xs) s2:=by rw [Oy,h,zG,h',zG]
def jt:zo e st=.ok [] st:=(rfl)
def zL (h:f e st=.ok x s1):zd f zo e st=.ok [x] s1:=wQ h jt
def zT (h:f e st=.ok x s1) (h':fa e s1=.ok y s2):zd f (zd fa zo) e st=.ok [x,y] s2:=wQ h (zL h')
def zX (h:fs e st=.ok xs s1) (hl:xs.length<=1000000):zC fs e st=.ok (.tup xs) s1:=by rw [Oz,h,zG,zF hl]
def jh (h:fs e st=.ok xs s1) (hl:xs.length<=1000000):yU fs e st=.ok (.ref s1.length) (s1++[.lst xs]):=by rw [OA,h,zG,zF hl]
def yc (h:f e st=.ok (.bl b) s1):mB f e st=.ok b s1:=by rw [Ow,h,zG,qj]
def Fp (h:ta e st=.ok false s1):ki ta tb e st=.ok false s1:=by rw [D7,h,zG,zP (by simp)]
def xT (h:ta e st=.ok true s1) (h':tb e s1=.ok b s2):ki ta tb e st=.ok b s2:=by rw [D7,h,zG,zF rfl,h']
def xU (h:ta e st=.ok true s1):jI ta tb e st=.ok true s1:=by rw [D8,h,zG,zF rfl]
def mR (h:ta e st=.ok false s1) (h':tb e s1=.ok b s2):jI ta tb e st=.ok b s2:=by rw [D8,h,zG,zP (by simp),h']
def mS (h:ta e st=.ok b s1):wx ta e st=.ok (!b) s1:=by rw [Ox,h,zG]
def qH {X:Res PV}(h:fa e st=.ok (.bl true) s1) (h':fb e s1=X):wY fa fb e st=X:=by rw [D_,h,zG,qj,zG,zF rfl,h']
def Fq {lo hi:Option Int}{fl fu:zm->Mo (Option Int)}{X:Res PV}(h:fa e st=.ok x s1) (hl:fl e s1=.ok lo s2) (hu:fu e s2=.ok hi s3) (h':oq x lo hi s3=X):lg fa fl fu e st=X:=by rw [OB,h,zG,hl,zG,hu,zG,h']
def xV {i:Int}(h:f e st=.ok (.int i) s1):cP f e st=.ok (some i) s1:=by rw [OC,h,zG,OD]
def Ft:d7 e st=.ok none st:=(rfl)
def jL {op:Am}{n:Nat}{ys:An}{X:Res PV}(h:fa e st=.ok (.ref n) s1) (hl:s1[n]?=some (.lst ys)) (h':fb e s1=.ok y s2) (h2:op (.ref n) y s2=X):yF op fa fb e st=X:=by
 rw [OU,h,zG,OV]
 simp only [yi,hl,zG]
 rw [h',zG,h2]
def qI (i j:Int):ya (.int i) (.int j) st=.ok (.int (i+j)) st:=(rfl)
def wG (i j:Int):jC (.int i) (.int j) st=.ok (.int (i-j)) st:=(rfl)
def jj (i j:Int) (h:j≠0):zV (.int i) (.int j) st=.ok (.int (yY i j)) st:=by show (if _ then _ else _)=_;rw [zF (by simpa using h)]
def wH (i j:Int) (h:j≠0) (h2:j.natAbs<2 ^ 200):yO (.int i) (.int j) st=.ok (.int (jD i j)) st:=by
 show (if _ then _ else _)=_
 rw [zF]
 simp only [v5,iT,nS]
 exact ⟨h,h2⟩
def Qt (i j:Int):oLt (.int i) (.int j) st=.ok (.bl (decide (i<j))) st:=(rfl)
def Qu (i j:Int):iE (.int i) (.int j) st=.ok (.bl (decide (j<i))) st:=(rfl)
def xW (i j:Int):ye (.int i) (.int j) st=.ok (.bl (decide (i=j))) st:=by simp [Mi.plain,dep,a_];rfl
def Qv (i j:Str):ye (.str i) (.str j) st=.ok (.bl (decide (i=j))) st:=by simp [Mi.plain,dep,a_];rfl
def Qw (i j:Int) (h:gK i j=true):jq (.int i) (.int j) st=.ok (.int (i*j)) st:=by rw [Pl,zF h]
def yg {m:Nat}{n:Nat}{r:aa}(hl:xs.length=m) (h:g (xs.map some++List.replicate (n-m) none) st=.ok (.rt v) r):yq m n g xs st=.ok v r:=by
 unfold yq
 rw [zF hl,h,zG,OR]
end
end Mi
namespace Mi
open PySem L2 PySem.W PySem.Spec
def Fu:Expr->Bool
 | .Starred _ _=>false
 | _=>true
def Qx {e:Expr}{es:List Expr}{env:Env}(h:Fu e=true):Em e es env:=by cases e<;>first|rfl|cases h
def zh {X:Cx}{Er:XK}{e:Expr}{es:List Expr}{fa:Ai}{fs:Ah}(ha:ME X Er e fa) (hr:MA X Er es fs) (hs:Fu e=true:=by rfl):MA X Er (e::es) (zd fa fs):=DO ha hr (Qx hs)
section
variable {X:Cx}{K:Frag}{mg:Ab}{Er:XK}{e o:Expr}{pos apos a7:Pos}{fo fa:Ai}{x:Str}{h:Heap}
end
end Mi
namespace PySem
section
variable {M:Model}{A:Around}{E:Aa}
variable {nm q Wm q':Str}{C N B N':Addr}{bs bm Wn Wo:Af}{iR Qy:Bool}{sn Wq:Ad}{sub VC:Af}{ab Wr:Bool}{col VD:Option Bool}{dd iA:Option Addr}{k0 k1 k2 k3 k5 Ws Wt Wu qF Wv:Option Value}{newId Ja:String}
end
end PySem
namespace L2
open PySem PySem.Spec PyProof.Rows PySem.W
structure Qz (K:Frag) (C B:Addr):Prop where
 of:DD K C
 sub:mroIn K C (.ref B)=some true
end L2
namespace Mi
open PySem L2 PySem.W PySem.Spec
section
variable {X:Cx}{Er:XK}{pos:Pos}
end
end Mi
namespace L2
open PySem PySem.Spec PyProof.Rows PySem.W
end L2
namespace Mi
open PySem L2 PySem.W PySem.Spec
section
variable {X:Cx}{Er:XK}{pos:Pos}{o:Expr}{dX:List Stmt}{gb:Aj}{fo:Ai}{fs:Ah}
end
end Mi
namespace L2
open PySem PySem.Spec PyProof.Rows PySem.W PySem.Builtin PySem.Builtin.ObjectAttr
end L2
namespace Mi
open PySem L2 PySem.W PySem.Spec
section
variable {K:Frag}{mg:Ab}{h:Heap}{C:Addr}
end
section
variable {P:Program}{W:World}{A:Around}{s:Shared}
end
section
variable {X:Cx}{K:Frag}{mg:Ab}{ρ:Ae}{pins:Ac}{U:L2.St}{H:Hp}{s:Shared}{st:aa}
end
section
variable {X:Cx}{K:Frag}{mg:Ab}{Er:XK}{e o:Expr}{es:List Expr}{pos p apos:Pos}{fs:Ah}{fo fa:Ai}
def tq:Am
 | .ref n,.int i,st=>if i=0 then yi st n λxs=>match xs with
  | y::r=>.ok y (st.set n (.lst r))
  | []=>.stuck
  else .stuck
 | _,_,_=>.stuck
def zrj {a7:Pos} (ho:ME X Er o fo) (he:ME X Er e fa) (eX:attributeBase o "pop" X.env (eval o X.env)=eval o X.env:=by rfl)
  (gy:((backTo a7 (starEach [e] X.env)).all (λx=>!x.1)&&(backToKw a7 (keywordEach [] X.env)).all (λx=>x.1.isSome)&&decide ([e].length+([]:List Keyword).length+(if ([]:List Keyword).isEmpty then 0 else 1)<30))=true:=by rfl)
  (eY:(apos.endLine==a7.line)=true:=by rfl) (hs:starEach [e] X.env=(false,eval e X.env)::starEach [] X.env:=by rfl) (bU:(backTo a7 (starEach [] X.env)).any (·.1)=false:=by rfl):ME X Er (.Call (.Attribute o "pop" apos) [e] [] a7) (yF tq fo fa) :=
 PE.weak (vo PySem.F.plainAttrs_list PySem.F.slot_list_pop PySem.F.type_list_pop LZ ho (rR he rQ hs) eX gy eY hs bU) λU H Q ⟨env,st,ρ,re,rs,h⟩=>⟨env,st,ρ,re,rs,h.then λaf H1 x aq e1 s1 h1 v rv=>by
  obtain ⟨n,xs,rfl,hn,h1⟩:=xm h1
  obtain ⟨p,vs,rfl,hp,k1,k2⟩:=R.refL s1 rv hn
  refine ⟨.inl ⟨rfl,vs,aQ.of k1⟩,env,aq,af,re.ext e1,s1,h1.then λap H2 y ay e2 s2 h2 w rw=>?_⟩
  cases y with
  | int i =>
   cases rw
   obtain ⟨hi,h2⟩:=Out.ifp h2
   subst hi
   obtain ⟨xs2,fj,h2⟩:=jp h2
   obtain ⟨p',fN,e3,i_,k3,k4⟩:=R.refL s2 (R.ext e2 _ rv) fj
   cases e3
   cases xs2 with
   | nil=>exact h2.elim
   | cons y r =>
    obtain ⟨u,us,rfl,ru,xX⟩:=k4
    have ew:Ext ap H2 ap (upd H2 p (.lst us)):=Ext.write k3 rfl
    exact ⟨p,u::us,0,0,u,rfl,rfl,k3,by decide,by decide,by simp [seqIndex?],rfl,h2 ap _ ew (s2.write i_ ew ⟨us,jf,Rs.ext ew _ xX⟩) _ (R.ext ew y ru)⟩
  | _=>exact h2.elim⟩
end
end Mi
namespace Mi
open PySem L2 PySem.W PySem.Spec PyProof.Rows
section
variable {prog:Program}{w:World}{A:Around}{E:Aa}{s:Shared}
end
section
variable {X:Cx}{Er:XK}
end
section
variable {prog:Program}{w:World}{A:Around}{E:Aa}{s:Shared}
end
section
variable {prog:Program}{w:World}{A:Around}{E:Aa}{s:Shared}
end
section
variable {X:Cx}{Er:XK}{o:Expr}{fo:Ai}{p pos kp cp:Pos}{j:Nat}
end
section
variable {X:Cx}{Er:XK}
end
end Mi
namespace Mi
open PySem L2 PySem.W PySem.Spec
end Mi
namespace HT
open PySem PySem.Spec PyProof.Rows
section
variable {prog:Program}{w:World}{A:Around}{E:Aa}{s:Shared}
end
end HT
namespace Mi
open PySem L2 PySem.W PySem.Spec PyProof.Rows
section
variable {X:Cx}{K:Frag}{mg:Ab}{Er:XK}{e k:Expr}{p2 pos:Pos}{fa:Ai}{fk:zm->Mo (Option Int)}
end
section
variable {X:Cx}{K:Frag}{mg:Ab}{Er:XK}
end
end Mi
namespace Mi
open PySem L2 PySem.W PySem.Spec
section
variable {X:Cx}{Er:XK}{pos:Pos}
end
end Mi
namespace L2
open PySem PySem.Spec PyProof.Rows PySem.W
theorem QA (l:Addr) (its:Array Value) (n:Nat) (b:Addr) (o:Obj) (us:Array Value) (k:Nat) (gz:¬(!its.isEmpty&&Builtin.List.listTooLong (its.size+us.size))=true) (hz:its.size+us.size<=sizeLine) :
  Meets (Builtin.«list.extend» ⟨[.ref l,.ref b],[]⟩) λ_ R s=>s.heap.get? l=some { cls:=.type "list", data:=.seq its n }/\(s.heap.get? b=some o/\o.cls=.type "tuple" /\ o.data=.seq us k)/\R (.ok (.ret .none)) { s with heap:=s.heap.update l (Obj.mapSeq (·++us)) }:=by
 intro prog w A R s ⟨hS,⟨ho,hc,hd⟩,hR⟩
 show wpAny _ A.in1 (Builtin.List.listExtendWith (.ref l) (.ref b) .none) _ _ s
 unfold Builtin.List.listExtendWith
 refine zx (wpAny_typeOf ⟨o,ho,hc⟩ ?_)
 have h1:(Builtin.List.listSameRef (.ref l) (.ref b)||Value.type "tuple" == Value.type "list" || Value.type "tuple" == Value.type "tuple")=true:=by simp
 simp only [h1,ia]
 unfold Builtin.List.listItems
 refine zx (zx (wpAny_seqItems ho hd (zZ (zx (zx (wpAny_seqItems hS rfl (zZ ?_)))))))
 rw [zP gz]
 show wpAny _ A.in1 (updateSeq l (·++us) >>= λ_=>ret .none) _ _ s
 exact zx (wpAny_updateSeq hS rfl (zZ hR) (by show its.size<=sizeLine;omega))
def QB (K:Frag):V->List V->Hp->VK->Prop:=λx vs H Q=>∃l b xs zs,x=.ref l/\vs=[.ref b]/\H l=some (.lst xs)/\aW K H b zs/\xs.length+zs.length<=sizeLine/\Q .non (upd H l (.lst (xs++zs)))
def zrm {X:Cx}:rV X "list.extend" λx vs H Q=>CZ x vs H Q\/QB X.K x vs H Q:=by
 intro pins s U H x vs v us Q I rx rv h
 rcases h with h|h
 ·exact LX pins s U H x vs v us Q I rx rv h
 ·obtain ⟨l,b,xs,zs,rfl,rfl,hH,hB,hz,q⟩:=h
  cases rx
  obtain ⟨u,rfl,ru⟩:=rv.one
  cases ru
  obtain ⟨z,its,n,r,hl,e⟩:=I.lstM hH
  obtain ⟨aL,r2,⟨o,ho,hc,k,hd⟩,_⟩:=I.tuple hB
  have hl2:=r2.length
  have hsz:its.toArray.size+aL.toArray.size<=sizeLine:=by rw [yQ,yQ];omega
  have gz:¬(!its.toArray.isEmpty&&Builtin.List.listTooLong (its.toArray.size+aL.toArray.size))=true:=by
   rw [iQ hsz,Bool.and_false]
   exact Bool.false_ne_true
  refine call_meets F.slot_list_extend ⟨_,e,rfl⟩ F.entry_list_extend (F.args_list_extend_2 _ _) (QA l its.toArray n b o aL.toArray k gz hsz) ⟨e,⟨ho,hc,hd⟩,?_⟩
  refine ⟨.non,_,I.lset (its':=its++aL) hH e (by simp) (r.append r2) ?_,rfl,q⟩
  rw [h_]
  omega
end L2
namespace Mi
open PySem L2 PySem.W PySem.Spec
section
variable {X:Cx}{Er:XK}{e o:Expr}{apos:Pos}{fo fa:Ai}
def tD:Am
 | .ref n,.tup ys,st=>yi st n λxs=>if xs.length+ys.length<=lim then .ok .non (st.set n (.lst (xs++ys))) else .stuck
 | x,y,st=>Og x y st
def zrn {a7:Pos} (ho:ME X Er o fo) (he:ME X Er e fa) (eX:attributeBase o "extend" X.env (eval o X.env)=eval o X.env:=by rfl)
  (gy:((backTo a7 (starEach [e] X.env)).all (λx=>!x.1)&&(backToKw a7 (keywordEach [] X.env)).all (λx=>x.1.isSome)&&decide ([e].length+([]:List Keyword).length+(if ([]:List Keyword).isEmpty then 0 else 1)<30))=true:=by rfl)
  (eY:(apos.endLine==a7.line)=true:=by rfl) (hs:starEach [e] X.env=(false,eval e X.env)::starEach [] X.env:=by rfl) (bU:(backTo a7 (starEach [] X.env)).any (·.1)=false:=by rfl):ME X Er (.Call (.Attribute o "extend" apos) [e] [] a7) (yF tD fo fa) :=
 PE.weak (vo PySem.F.plainAttrs_list PySem.F.slot_list_extend PySem.F.type_list_extend zrm ho (rR he rQ hs) eX gy eY hs bU) λU H Q ⟨env,st,ρ,re,rs,h⟩=>⟨env,st,ρ,re,rs,h.then λaf H1 x aq e1 s1 h1 v rv=>by
  obtain ⟨n,xs,rfl,hn,h1⟩:=xm h1
  obtain ⟨p,vs,rfl,hp,k1,k2⟩:=R.refL s1 rv hn
  refine ⟨.inl ⟨rfl,vs,aQ.of k1⟩,env,aq,af,re.ext e1,s1,h1.then λap H2 y ay e2 s2 h2 w rw=>?_⟩
  cases y with
  | ref m =>
   obtain ⟨xs2,fj,h2⟩:=jp h2
   obtain ⟨Ww,xY,h2⟩:=jp h2
   obtain ⟨c,h2⟩:=Out.ifp h2
   obtain ⟨p',fN,e3,i_,k3,k4⟩:=R.refL s2 (R.ext e2 _ rv) fj
   cases e3
   obtain ⟨q,mT,rfl,dU,k5,k6⟩:=R.refL s2 rw xY
   have ew:Ext ap H2 ap (upd H2 p (.lst (fN++mT))):=Ext.write k3 rfl
   exact .inl ⟨p,q,fN,mT,rfl,rfl,k3,k5,by rw [<-k4.len,<-k6.len];exact jo c,h2 ap _ ew (s2.write i_ ew ⟨fN++mT,jf,Rs.ext ew _ (k4.append k6)⟩) _ rfl⟩
  | tup ys =>
   obtain ⟨xs2,fj,h2⟩:=jp h2
   obtain ⟨c,h2⟩:=Out.ifp h2
   obtain ⟨p',fN,e3,i_,k3,k4⟩:=R.refL s2 (R.ext e2 _ rv) fj
   cases e3
   obtain ⟨q,mT,rfl,k5,k6⟩:=rw
   have ew:Ext ap H2 ap (upd H2 p (.lst (fN++mT))):=Ext.write k3 rfl
   exact .inr ⟨p,q,fN,mT,rfl,rfl,k3,k5,by rw [<-k4.len,<-k6.len];exact jo c,h2 ap _ ew (s2.write i_ ew ⟨fN++mT,jf,Rs.ext ew _ (k4.append k6)⟩) _ rfl⟩
  | _=>exact h2.elim⟩
end
end Mi
namespace L2
open PySem PySem.Spec PyProof.Rows PySem.W Mi
section
variable {X:Cx}{pins:Ac}{U:St}{H H':Hp}{s:Shared}{a b:Addr}{its:List (List Key×Addr×Value)}{k:List Key}{A:Around}{E:Aa}{r:Value}
abbrev gX (K:Frag) (H:Hp) (its:List (List Key×Addr×Value)):Prop:=∀x,x∈its->aW K H x.2.1 (x.1.map kV)
def qJ (I:Inv X pins U H s) (h:aW X.K H b (k.map kV)):(tupleKind (aY X.prog X.w)).is s.heap k b:=by
 obtain ⟨us,r,⟨o,h1,h2,n,h3⟩,_⟩:=I.tuple h
 exact ⟨o,us.toArray,n,h1,h2,h3,by simpa using vK r⟩
def qK (I:Inv X pins U H s) (e:H a=some (dE a its)) (ks:gX X.K H its):its.length<=sizeLine/\(a==sysModules)=false/\s.heap.DictOfH (tupleKind (aY X.prog X.w)) a its:=by
 obtain ⟨⟨z,y,o,es,ep,h1,h2,h3,h4,h5⟩,_⟩:=(show aR X.prog X.w H s.heap a (dE a its) from I.hok a _ e)
 exact ⟨z,y,o,es,ep,h1,h2,h3,h4,λx hx=>qJ I (ks x hx),h5⟩
def QC {p:Addr×Value}{Q:Aa}(hu:A.units+1<cLine) (I:Inv X pins U H s) (e:H a=some (dE a its)) (ks:gX X.K H its) (kb:aW X.K H b (k.map kV)) (hp:atKey its k=some p)
  (h:∀s',Inv X pins U H s'->Q p.2 s'):wpAny (model X.prog X.w) A (getItem (.ref a) (.ref b)) Q E s:=by
 obtain ⟨z,hd,dd⟩:=qK I e ks
 exact wpAny_getItem_heap (tupleKind_room_in1 hu) (qJ I kb) dd hp (h _ (I.tok _))
def QD {Q:Aa}(hu:A.units+1<cLine) (I:Inv X pins U H s) (e:H a=some (dE a its)) (ks:gX X.K H its) (kb:aW X.K H b (k.map kV))
  (h:∀s',Inv X pins U H s'->Q (.bool (atKey its k).isSome) s'):wpAny (model X.prog X.w) A (compareOp .In (.ref b) (.ref a)) Q E s:=by
 obtain ⟨z,hd,dd⟩:=qK I e ks
 exact wpAny_in_heap (tupleKind_room_in1 hu) (qJ I kb) hd dd (h _ (I.tok _))
def QE {Q:Aa}(hu:A.units+1<cLine) (I:Inv X pins U H s) (e:H a=some (dE a its)) (ks:gX X.K H its) (kb:aW X.K H b (k.map kV))
  (h:∀s',Inv X pins U H s'->Q (.bool (!(atKey its k).isSome)) s'):wpAny (model X.prog X.w) A (compareOp .NotIn (.ref b) (.ref a)) Q E s:=by
 obtain ⟨z,hd,dd⟩:=qK I e ks
 exact wpAny_notIn_heap (tupleKind_room_in1 hu) (qJ I kb) hd dd (h _ (I.tok _))
theorem QF (its:List (List Key×Addr×Value)) (k:List Key) (b:Addr) (r:Value):(storedH its k b r).length<=its.length+1:=by
 unfold storedH
 split
 ·rw [yI];omega
 ·simp
def Fv {P:Program}{w:World}{H:Hp}{h:Heap}{q:Obj}{es:Array DictEntry}{ep:Nat}(z:its.length<=sizeLine) (hd:(a==sysModules)=false) (hq:h.get? a=some q) (h2:q.ExactDict) (h3:q.data=.dict es ep)
  (h4:es.toList=its.map (entryOfKey (tupleKind (aY P w)))) (h5:(its.map (·.1)).Nodup):aR P w H h a (dE a its) :=
 ⟨⟨z,hd,q,es,ep,hq,h2,h3,h4,h5⟩,⟨q,hq⟩,λh1 h2 ⟨z,y,o,es,ep,e,r⟩ k=>⟨z,y,o,es,ep,k _ e,r⟩⟩
theorem QG {Q:Unit->Shared->Prop}(hu:A.units+1<cLine) (I:Inv X pins U H s) (e:H a=some (dE a its)) (ks:gX X.K H its) (kb:aW X.K H b (k.map kV)) (l:its.length<sizeLine)
  (h:∀s',Inv X pins U (upd H a (dE a (storedH its k b r))) s'->Q () s'):wpAny (model X.prog X.w) A (setItem (.ref a) (.ref b) r) Q E s:=by
 obtain ⟨z,hd,dd⟩:=qK I e ks
 refine wpAny_setItem_heap (hsz:=z) (tupleKind_room_in1 hu) (qJ I kb) dd λh' iA hs=>h _ ?_
 obtain ⟨q,es,ep,hq,h2,h3,h4,_,h5⟩:=iA
 exact rZ I (by rw [e];exact True.intro) hs ⟨q,hq⟩ (Fv (by have:=QF its k b r;omega) hd hq h2 h3 h4 h5)
def Inv.turnE (I:Inv X pins U H s) (ha:H a=some (.dK [])):Inv X pins U (upd H a (dE a [])) s:=by
 obtain ⟨z,hd,vs,rel,o,es,ep,h1,h2,h3,h4,h6,h5⟩:=vL I.hok ha
 cases rel
 have hz:es.toList=[]:=by
  have:=h6.length
  exact List.length_eq_zero_iff.mp this
 exact I.un (h':=s.heap) (t':=s.toks) (Un.write (e:=a) (by rw [ha];trivial) (.inl rfl) (λb u _ q=>q) ⟨o,h1⟩) (cf.write (e:=a) I.hok (by rw [ha];trivial) (.inl rfl) (λb u _ q=>q) ⟨o,h1⟩ (Fv (jB _) hd h1 h2 h3 hz List.nodup_nil))
def fQ (H:Hp) (a:Addr) (H':Hp) (its:List (List Key×Addr×Value)):Prop:=(H'=H/\H a=some (dE a its))\/(H a=some (.dK [])/\its=[]/\H'=upd H a (dE a []))
def fQ.inv (t:fQ H a H' its) (I:Inv X pins U H s):Inv X pins U H' s/\H' a=some (dE a its):=by
 rcases t with ⟨rfl,e⟩|⟨e,rfl,rfl⟩
 ·exact ⟨I,e⟩
 ·exact ⟨I.turnE e,jf⟩
def xZ (K:Frag) (neg:Bool):R2:=λx y H Q=>∃a b k its H',x=.ref b/\y=.ref a/\fQ H a H' its/\gX K H' its/\aW K H' b (k.map kV)/\Q (.bl (neg.xor (atKey its k).isSome)) H'
def QH (hu:X.A.units+200<cLine):bh X (compareOp .In) (xZ X.K false):=by
 intro pins s U H x y v u Q I rx ry ⟨a,b,k,its,H',ex,ey,t,ks,kb,q⟩
 subst ex ey
 obtain rfl:v=Value.ref b:=rx
 obtain rfl:u=Value.ref a:=ry
 obtain ⟨I',e⟩:=t.inv I
 exact QD (by omega) I' e ks kb λs' I2=>⟨.bl (atKey its k).isSome,H',I2,rfl,by simpa using q⟩
def QI (hu:X.A.units+200<cLine):bh X (compareOp .NotIn) (xZ X.K true):=by
 intro pins s U H x y v u Q I rx ry ⟨a,b,k,its,H',ex,ey,t,ks,kb,q⟩
 subst ex ey
 obtain rfl:v=Value.ref b:=rx
 obtain rfl:u=Value.ref a:=ry
 obtain ⟨I',e⟩:=t.inv I
 exact QE (by omega) I' e ks kb λs' I2=>⟨.bl (!(atKey its k).isSome),H',I2,rfl,by simpa using q⟩
def QJ (K:Frag):R2:=λx y H Q=>∃a b k its H' p v,x=.ref a/\y=.ref b/\fQ H a H' its/\gX K H' its/\aW K H' b (k.map kV)/\atKey its k=some p/\RelV v p.2/\Q v H'
def QK (hu:X.A.units+1<cLine):fL X (QJ X.K):=by
 intro value slice pins s U H x y v u Q I rx ry ⟨a,b,k,its,H',p,w,ex,ey,t,ks,kb,hp,rp,q⟩ hs
 subst ex ey
 obtain rfl:v=Value.ref a:=rx
 obtain rfl:u=Value.ref b:=ry
 obtain ⟨I',e⟩:=t.inv I
 obtain ⟨_,_,dd⟩:=qK I' e ks
 exact PyProof.Rows.tail_any dd.typeIs PySem.F.slot_dict_getitem.lookup (QC hu I' e ks kb hp λs' I2=>⟨w,H',I2,rp,q⟩) hs
def QL (K:Frag) (td ty tv:TE):TS:=λD U H=>tv U H λv H1=>td U H1 λx H2=>ty U H2 λy H3=>(∃a H4,x=.ref a/\eP H3 a y v H4/\D.nx U H4) \/
 ∃a b k its H4,x=.ref a/\y=.ref b/\fQ H3 a H4 its/\gX K H4 its/\aW K H4 b (k.map kV)/\its.length<sizeLine/\∀u,RelV v u->D.nx U (upd H4 a (dE a (storedH its k b u)))
def QM {o i value:Expr}{pos pos':Pos}{td ty tv:TE}(hu:X.A.units+1<cLine) (ho:PE X o td) (hi:PE X i ty) (hv:PE X value tv) (hs:swapsWith value (some (.Subscript o i pos')) pos.line X.env=pure false) :
  PS X (.Assign [.Subscript o i pos'] value pos) (QL X.K td ty tv):=by
 intro pins s U H D I h
 refine wpAny_Assign_Subscript (aP (hv pins s U H _ I h) λr s1 ⟨v,H1,I1,rv,q1⟩=>aP (ho pins s1 U H1 _ I1 q1) λu s2 ⟨x,H2,I2,rx,q2⟩=>aP (hi pins s2 U H2 _ I2 q2) λiv s3 ⟨y,H3,I3,ry,q3⟩=>?_) hs
 rcases q3 with ⟨a,H4,ex,g,q3⟩|⟨a,b,k,its,H4,ex,ey,t,ks,kb,l,q3⟩
 ·subst ex
  obtain rfl:u=Value.ref a:=rx
  exact Ds hu I3 g ry rv λs4 I4=>⟨U,H4,I4,q3⟩
 ·subst ex ey
  obtain rfl:u=Value.ref a:=rx
  obtain rfl:iv=Value.ref b:=ry
  obtain ⟨I',e⟩:=t.inv I3
  exact QG hu I' e ks kb l λs4 I4=>⟨U,_,I4,q3 r rv⟩
end
end L2
namespace Mi
open PySem L2 PySem.W PySem.Spec
section
variable {X:Cx}{Er:XK}{K:Frag}{mg:Ab}{ρ:Ae}{H:Hp}{st:aa}{pos pos':Pos}{o:Expr}
def Fw:PV->Option Key
 | .int i=>some (.inl i)
 | .str z=>some (.inr z)
 | _=>none
def dv:List PV->Option (List Key)
 | []=>some []
 | x::r=>match Fw x,dv r with
  | some k,some l=>some (k::l)
  | _,_=>none
theorem tE:∀{xs:An}{vs:List V}{k:List Key},Rs K mg ρ H xs vs->dv xs=some k->vs=k.map kV
 | [],vs,k,r,h=>by cases h;cases r;rfl
 | x::xs,vs,k,r,h=>by
  obtain ⟨v,ws,rfl,h1,h2⟩:=r
  unfold dv at h
  split at h
  ·rename_i k0 l hk hl
   cases h
   rw [tE h2 hl,yu]
   congr 1
   cases x with
   | int i=>cases hk;exact h1
   | str z=>cases hk;exact h1
   | _=>cases hk
  ·cases h
def dw:Option SO->Option (List (List Key)×List PV)
 | some (.dit ks xs)=>some (ks,xs)
 | some (.dic [] [])=>some ([],[])
 | _=>none
def x8 {n:Nat}{a:Addr}{ks:Ag}{xs:An}(s:aX K mg ρ H st) (ha:ρ[n]?=some a) (h:dw st[n]?=some (ks,xs)) :
  ∃H' its vs,fQ H a H' its/\Ext ρ H ρ H'/\aX K mg ρ H' (st.set n (.dit ks xs))/\its.map (·.1)=ks/\gX K H' its/\Vals vs (its.map (·.2.2))/\Rs K mg ρ H' xs vs:=by
 unfold dw at h
 split at h
 ·rename_i bO c9 e
  cases h
  obtain ⟨its,vs,h1,h2,h3,h4,h5⟩:=s.addr e ha
  refine ⟨H,its,vs,.inl ⟨rfl,h1⟩,Ext.refl,?_,h2,h3,h4,h5⟩
  have:st.set n (.dit ks xs)=st:=by
   obtain ⟨hl,he⟩:=yt.mp e
   rw [<-he,List.set_getElem_self]
  rw [this];exact s
 ·rename_i e
  cases h
  obtain ⟨vs,h1,h2,h3⟩:=s.addr e ha
  cases h2
  have ew:Ext ρ H ρ (upd H a (dE a [])):=Ext.write h1 rfl
  exact ⟨_,[],[],.inr ⟨h1,rfl,rfl⟩,ew,s.write ha ew ⟨[],[],jf,rfl,(λx hx=>nomatch hx),.nil,rfl⟩,rfl,(λx hx=>nomatch hx),.nil,rfl⟩
 ·cases h
def a5 (k:List Key) (ks:Ag):Bool:=ks.any λz=>decide (z=k)
def tF {k:List Key}{ks:Ag}:a5 k ks=true↔k∈ks:=by
 unfold a5
 rw [List.any_eq_true]
 exact ⟨λ⟨x,h,e⟩=>(of_decide_eq_true e)▸h,λh=>⟨k,h,wc rfl⟩⟩
theorem x9 {k:List Key}:∀{its:List (List Key×Addr×Value)},(atKey its k).isSome=a5 k (its.map (·.1))
 | []=>rfl
 | x::r=>by
  have ih:=x9 (k:=k) (its:=r)
  unfold atKey at ih ⊢
  rw [List.find?_cons,yu,show a5 k (x.1::r.map (·.1))=(decide (x.1=k)||a5 k (r.map (·.1))) from rfl]
  by_cases h:x.1=k
  ·rw [wc h];rfl
  ·rw [jU h];exact ih
def oI {α:Type}(k:List Key):List (List Key)->List α->Option α
 | z::zs,x::xs=>if z=k then some x else oI k zs xs
 | _,_=>none
theorem Fx {k:List Key}{q:PV}:∀{its:List (List Key×Addr×Value)}{vs:List V}{xs:An},Vals vs (its.map (·.2.2))->Rs K mg ρ H xs vs->oI k (its.map (·.1)) xs=some q->∃p v,atKey its k=some p/\RelV v p.2/\R K mg ρ H q v
 | [],_,xs,_,_,h=>by cases xs<;>cases h
 | x::r,_,[],hv,hr,h=>by cases h
 | x::r,vs,y::ys,hv,hr,h=>by
  obtain ⟨v,ws,rfl,h1,h2⟩:=hr
  rw [yu] at hv
  cases hv with
  | cons g t =>
   rw [yu] at h
   unfold oI at h
   unfold atKey
   rw [List.find?_cons]
   by_cases e:x.1=k
   ·rw [zF e] at h
    cases h
    rw [wc e]
    exact ⟨x.2,v,rfl,g,h1⟩
   ·rw [zP e] at h
    obtain ⟨p,v',a1,a2,a3⟩:=Fx t h2 h
    rw [jU e]
    exact ⟨p,v',a1,a2,a3⟩
def cH (old:Am) (neg:Bool) (x y:PV):Mo PV:=λst=>match x,y with
 | .tup zs,.ref n=>match dv zs,dw st[n]? with
  | some k,some (ks,xs)=>.ok (.bl (neg.xor (a5 k ks))) (st.set n (.dit ks xs))
  | _,_=>old x y st
 | _,_=>old x y st
def QN {old:Am}{neg:Bool}{x y:PV}:cH old neg x y st=old x y st\/∃zs n k ks xs,x=.tup zs/\y=.ref n/\dv zs=some k/\dw st[n]?=some (ks,xs)/\cH old neg x y st=.ok (.bl (neg.xor (a5 k ks))) (st.set n (.dit ks xs)):=by
 unfold cH
 split
 ·rename_i zs n
  cases h1:dv zs with
  | none=>exact .inl rfl
  | some k =>
   cases h2:dw st[n]? with
   | none=>exact .inl rfl
   | some p=>exact .inr ⟨zs,n,k,p.1,p.2,rfl,rfl,h1,h2,rfl⟩
 ·exact .inl rfl
def Fy {r:R2}{old:Am}{neg:Bool}(m:fO K mg r old):fO K mg (λx y H Q=>r x y H Q\/xZ K neg x y H Q) (cH old neg):=by
 intro ρ H st x y v w Q E s rx ry h
 rcases QN (old:=old) (neg:=neg) (x:=x) (y:=y) (st:=st) with e|⟨zs,n,k,ks,xs,rfl,rfl,h1,h2,e⟩
 ·rw [e] at h;exact .inl (m ρ H st x y v w Q E s rx ry h)
 ·rw [e] at h
  obtain ⟨b,us,rfl,hb,ru⟩:=rx
  obtain ⟨a,rfl,ha⟩:=ry
  obtain ⟨H',its,vs,t,ex,s',hk,hq,hv,hr⟩:=x8 s ha h2
  have:=tE ru h1
  subst this
  refine .inr ⟨a,b,k,its,H',rfl,rfl,t,hq,ex.sqT hb,?_⟩
  rw [x9,hk]
  exact h ρ H' ex s' _ rfl
def bh.or' {f:Value->Value->Sem Value}{r r':R2}(a:bh X f r) (b:bh X f r'):bh X f (λx y H Q=>r x y H Q\/r' x y H Q):=by
 intro pins s U H x y v u Q I rx ry h
 rcases h with h|h
 ·exact a pins s U H x y v u Q I rx ry h
 ·exact b pins s U H x y v u Q I rx ry h
def QO {old:Am}(hu:X.A.units+200<cLine) (c:b_ X .In old):b_ X .In (cH old false):=by
 obtain ⟨r,h1,h2⟩:=c
 exact ⟨_,bh.or' h1 (QH hu),Fy h2⟩
def QP {old:Am}(hu:X.A.units+200<cLine) (c:b_ X .NotIn old):b_ X .NotIn (cH old true):=by
 obtain ⟨r,h1,h2⟩:=c
 exact ⟨_,bh.or' h1 (QI hu),Fy h2⟩
def a6 (old:Am) (x y:PV):Mo PV:=λst=>match x,y with
 | .ref n,.tup zs=>match dv zs,dw st[n]? with
  | some k,some (ks,xs)=>b3 (oI k ks xs) (st.set n (.dit ks xs))
  | _,_=>old x y st
 | _,_=>old x y st
def QQ {old:Am}{x y:PV}:a6 old x y st=old x y st\/∃zs n k ks xs,y=.tup zs/\x=.ref n/\dv zs=some k/\dw st[n]?=some (ks,xs)/\a6 old x y st=b3 (oI k ks xs) (st.set n (.dit ks xs)):=by
 unfold a6
 split
 ·rename_i n zs
  cases h1:dv zs with
  | none=>exact .inl rfl
  | some k =>
   cases h2:dw st[n]? with
   | none=>exact .inl rfl
   | some p=>exact .inr ⟨zs,n,k,p.1,p.2,rfl,rfl,h1,h2,rfl⟩
 ·exact .inl rfl
def QR {old:Am}(hu:X.A.units+200<cLine) (c:k8 X old):k8 X (a6 old):=by
 obtain ⟨r,h1,h2⟩:=c
 refine ⟨_,h1.or (QK (by omega)),fun ρ H st x y v w Q E s rx ry h=>?_⟩
 rcases QQ (old:=old) (x:=x) (y:=y) (st:=st) with e|⟨zs,n,k,ks,xs,rfl,rfl,k1,k2,e⟩
 ·rw [e] at h;exact .inl (h2 ρ H st x y v w Q E s rx ry h)
 ·rw [e] at h
  obtain ⟨a,rfl,ha⟩:=rx
  obtain ⟨b,us,rfl,hb,ru⟩:=ry
  obtain ⟨H',its,vs,t,ex,s',hk,hq,hv,hr⟩:=x8 s ha k2
  have:=tE ru k1
  subst this
  cases hl:oI k ks xs with
  | none=>rw [hl] at h;exact h.elim
  | some q =>
   rw [hl] at h
   rw [<-hk] at hl
   obtain ⟨p,v,a1,a2,a3⟩:=Fx hv hr hl
   exact .inr ⟨a,b,k,its,H',p,v,rfl,rfl,t,hq,ex.sqT hb,a1,a2,h ρ H' ex s' _ a3⟩
end
section
variable {X:Cx}{Er:XK}{K:Frag}{mg:Ab}{ρ:Ae}{H:Hp}{st:aa}{pos pos':Pos}{o:Expr}
def gY {α:Type}(z:List Key) (x:α):List (List Key)->List α->List α
 | k::ks,y::ys=>(if k=z then x else y)::gY z x ks ys
 | _,ys=>ys
def gZ (z:List Key) (x:PV) (ks:Ag) (xs:An):List (List Key)×List PV:=if a5 z ks=true then (ks,gY z x ks xs) else (ks++[z],xs++[x])
def x_ {k:List Key}{u:Value}(x:List Key×Addr×Value):(PySem.putAt k u x).1=x.1/\(PySem.putAt k u x).2.1=x.2.1:=by
 unfold PySem.putAt
 split<;>exact ⟨rfl,rfl⟩
theorem Fz {k:List Key}{u:Value}{x:PV}{v:V}(rx:R K mg ρ H x v) (ru:RelV v u):∀{its:List (List Key×Addr×Value)}{vs:List V}{xs:An},Vals vs (its.map (·.2.2))->Rs K mg ρ H xs vs ->
  ∃ws,Vals ws ((its.map (PySem.putAt k u)).map (·.2.2))/\Rs K mg ρ H (gY k x (its.map (·.1)) xs) ws
 | [],vs,xs,hv,hr=>by
  rw [List.map_nil] at hv
  cases hv
  cases xs with
  | nil=>exact ⟨[],.nil,rfl⟩
  | cons y ys=>obtain ⟨_,_,z,_⟩:=hr;cases z
 | p::r,vs,[],hv,hr=>by
  cases hr
  rw [yu] at hv
  cases hv
 | p::r,vs,y::ys,hv,hr=>by
  obtain ⟨w,ws,rfl,h1,h2⟩:=hr
  rw [yu] at hv
  cases hv with
  | cons g t =>
   obtain ⟨zs,a1,a2⟩:=Fz rx ru t h2
   by_cases e:p.1=k
   ·refine ⟨v::zs,?_,v,zs,rfl,?_,a2⟩
    ·rw [yu,yu]
     refine .cons ?_ a1
     unfold PySem.putAt;rw [zF e];exact ru
    ·rw [zF e];exact rx
   ·refine ⟨w::zs,?_,w,zs,rfl,?_,a2⟩
    ·rw [yu,yu]
     refine .cons ?_ a1
     unfold PySem.putAt;rw [zP e];exact g
    ·rw [zP e];exact h1
def QS {k:List Key}{u:Value}{x:PV}{v:V}{b:Addr}{its:List (List Key×Addr×Value)}{vs:List V}{xs:An}(rx:R K mg ρ H x v) (ru:RelV v u) (hq:gX K H its) (hb:aW K H b (k.map kV)) (hv:Vals vs (its.map (·.2.2))) (hr:Rs K mg ρ H xs vs) :
  ∃ws,(storedH its k b u).map (·.1)=(gZ k x (its.map (·.1)) xs).1/\gX K H (storedH its k b u)/\Vals ws ((storedH its k b u).map (·.2.2))/\Rs K mg ρ H (gZ k x (its.map (·.1)) xs).2 ws:=by
 unfold storedH gZ
 rw [x9]
 by_cases hc:a5 k (its.map (·.1))=true
 ·rw [zF hc,zF hc]
  obtain ⟨ws,a1,a2⟩:=Fz (k:=k) rx ru hv hr
  refine ⟨ws,?_,λy hy=>?_,a1,a2⟩
  ·rw [List.map_map]
   exact List.map_congr_left λy _=>(x_ y).1
  ·obtain ⟨z,hz,rfl⟩:=jv.mp hy
   rw [(x_ z).1,(x_ z).2]
   exact hq z hz
 ·rw [zP hc,zP hc]
  refine ⟨vs++[v],by simp,λy hy=>?_,?_,hr.append ⟨v,[],rfl,rx,rfl⟩⟩
  ·rcases wu.mp hy with h|h
   ·exact hq y h
   ·obtain rfl:=jN.mp h;exact hb
  ·rw [ju]
   exact hv.append (.cons ru .nil)
def mU (z x o:PV):Mo Unit:=λst=>match z,o with
 | .tup zs,.ref n=>match dv zs,dw st[n]? with
  | some k,some (ks,xs)=>if ks.length<lim then .ok () (st.set n (.dit (gZ k x ks xs).1 (gZ k x ks xs).2)) else .stuck
  | _,_=>.stuck
 | _,_=>wO z x o st
def QT {z x o:PV}:mU z x o st=wO z x o st\/mU z x o st=.stuck\/∃zs n k ks xs,z=.tup zs/\o=.ref n/\dv zs=some k/\dw st[n]?=some (ks,xs)/\ks.length<lim/\mU z x o st=.ok () (st.set n (.dit (gZ k x ks xs).1 (gZ k x ks xs).2)):=by
 unfold mU
 split
 ·rename_i zs n
  cases h1:dv zs with
  | none=>exact .inr (.inl rfl)
  | some k =>
   cases h2:dw st[n]? with
   | none=>exact .inr (.inl rfl)
   | some p =>
    by_cases hc:p.1.length<lim
    ·exact .inr (.inr ⟨zs,n,k,p.1,p.2,rfl,rfl,h1,h2,hc,zF hc⟩)
    ·exact .inr (.inl (zP hc))
 ·exact .inl rfl
def mV (fo fi fv:Ai):Aj:=λenv st=>(fv env st).bind λx aq=>(fo env aq).bind λo ay=>(fi env ay).bind λz aS=>(mU z x o aS).bind λ_ ff=>.ok (.nx env) ff
theorem QU {env:zm}{U:L2.St}{D:Ends}{zz x y:PV}{u v w:V}(s3:aX K mg ρ H st) (re:bg K mg ρ H env U) (rv:R K mg ρ H x v) (dy:R K mg ρ H y w) (ru:R K mg ρ H zz u)
  (h3:Out K mg ρ H ((wO zz x y st).bind λ_ ff=>.ok (.nx env) ff) (gS K mg D) Er):∃a H4,w=.ref a/\eP H a u v H4/\D.nx U H4:=by
 cases y with
 | ref n =>
  cases zz with
  | str z =>
   cases hn:st[n]? with
   | none=>simp only [wO,jS,hn] at h3;exact h3.elim
   | some so =>
    cases so with
    | dic ks xs =>
     simp only [wO,jS,hn] at h3
     by_cases hc:ks.length<lim
     ·rw [zF hc] at h3
      obtain ⟨a,vs,e4,ha,k1,k2,k3⟩:=R.refD s3 dy hn
      subst e4
      cases ru
      obtain ⟨ws,q1,q2,q3⟩:=xt (z:=z) rv k3 k2
      have hlen:(kz ks vs).length<sizeLine:=by
       have:(kz ks vs).length=ks.length:=by simp [kz,k3]
       rw [this,sizeLine_eq]
       have:ks.length<1000000:=hc
       omega
      have g:=eP.k (k:=Sum.inr z) (v:=v) k1 hlen
      have ew:Ext ρ H ρ (upd H a (.dK (L2.putK (kz ks vs) (Sum.inr z) v))):=Ext.write k1 rfl
      exact ⟨a,_,rfl,g,h3 ρ _ ew (s3.write ha ew ⟨ws,by rw [jf,q1],Rs.ext ew _ q2,q3⟩) U (re.ext ew)⟩
     ·rw [zP hc] at h3;exact h3.elim
    | _=>simp only [wO,jS,hn] at h3;exact h3.elim
  | _=>exact h3.elim
 | _=>exact h3.elim
theorem zi8 {i value:Expr}{fo fi fv:Ai}(hu:X.A.units+200<cLine) (ho:ME X Er o fo) (hi:ME X Er i fi) (hv:ME X Er value fv) (hs:swapsWith value (some (.Subscript o i pos')) pos.line X.env=pure false:=by rfl):MS X Er (.Assign [.Subscript o i pos'] value pos) (mV fo fi fv) :=
 PS.weak (QM (by omega) ho hi hv hs) λD U H ⟨env,st,ρ,re,rs,h⟩=>⟨env,st,ρ,re,rs,h.then λaf H1 x aq e1 s1 h1 v rv=>⟨env,aq,af,re.ext e1,s1,h1.then λap H2 y ay e2 s2 h2 w rw=>⟨env,ay,ap,(re.ext e1).ext e2,s2,h2.then λaj H3 zz aS e3 s3 h3 u ru=>by
  have FA:=((re.ext e1).ext e2).ext e3
  have FC:=R.ext e3 x (R.ext e2 x rv)
  have FE:=R.ext e3 _ rw
  rcases QT (z:=zz) (x:=x) (o:=y) (st:=aS) with e|e|⟨zs,n,k,ks,xs,rfl,rfl,k1,k2,hc,e⟩
  ·rw [e] at h3;exact .inl (QU s3 FA FC FE ru h3)
  ·rw [e] at h3;exact h3.elim
  ·rw [e] at h3
   obtain ⟨b,us,rfl,hb,xX⟩:=ru
   obtain ⟨a,rfl,ha⟩:=FE
   obtain ⟨H',its,vs,t,ex,s',hk,hq,QV,hr⟩:=x8 s3 ha k2
   have:=tE xX k1
   subst this
   have hl:its.length<sizeLine:=by
    have h1:its.length=ks.length:=by rw [<-hk,yI]
    have h2:ks.length<1000000:=hc
    rw [h1,sizeLine_eq];omega
   refine .inr ⟨a,b,k,its,H',rfl,rfl,t,hq,ex.sqT hb,hl,λuu QW=>?_⟩
   subst hk
   have ea:H' a=some (dE a its):=by
    rcases t with ⟨rfl,e⟩|⟨_,rfl,rfl⟩
    ·exact e
    ·exact jf
   have ew:Ext aj H' aj (upd H' a (dE a (storedH its k b uu))):=Ext.write ea (Na X.prog X.w)
   obtain ⟨ws,q1,q2,q3,q4⟩:=QS (k:=k) (b:=b) (R.ext ex x FC) QW hq (ex.sqT hb) QV hr
   have sw:=s'.write (so:=.dit (gZ k x (its.map (·.1)) xs).1 (gZ k x (its.map (·.1)) xs).2) ha ew ⟨_,ws,jf,q1,λy hy=>ew.sqT (q2 y hy),q3,Rs.ext ew _ q4⟩
   rw [List.set_set] at sw
   exact h3 aj _ (ex.trans ew) sw U ((FA.ext ex).ext ew)⟩⟩⟩
end
section
variable {X:Cx}{K:Frag}{mg:Ab}{ρ:Ae}{H:Hp}{st:aa}
def y_:Am:=λx y st=>match x,y with
 | .ref n,.ref m=>yi st n λxs=>yi st m λys=>match cY eq1 xs ys with
  | some b=>.ok (.bl (!b)) st
  | none=>.stuck
 | _,_=>.stuck
def QX (K:Frag) (mg:Ab):R2:=λv w H Q=>∃ρ xs ys vs ws a a' b,v=.ref a/\w=.ref a'/\H a=some (.lst vs)/\H a'=some (.lst ws)/\Rs K mg ρ H xs vs/\Rs K mg ρ H ys ws/\cY eq1 xs ys=some b/\Q (.bl (!b)) H
theorem QY (hu:X.A.units+200<cLine):bh X (compareOp .NotEq) (QX X.K X.mg):=by
 intro pins s U H x y v u Q I rx ry h
 obtain ⟨ρ,xs,ys,vs,ws,a,a',b,rfl,rfl,h1,h3,k2,k4,h0,q⟩:=h
 cases rx
 cases ry
 obtain ⟨its,r1,p1,_⟩:=I.list (aQ.of h1)
 obtain ⟨aL,r2,p2,_⟩:=I.list (aQ.of h3)
 obtain ⟨e,he,hb⟩:=xG h0
 have it:=EK (G:=SeqAt.EqAt X.A.in1 s) (λx y v w u u' b e r1 r2 r3 r4=>(Pz I e r1 r2 r3 r4 (by rw [qd];omega)).1) k2 k4 r1 r2 he
 rw [k2.len,k4.len,r1.length,r2.length] at hb
 by_cases hz:its.toArray.size=aL.toArray.size
 ·have eb:(List.range its.toArray.size).all e=b:=by
   have mv:its.length=aL.length:=by simpa using hz
   rw [mv] at hb
   simp only [hz,yQ]
   simpa using hb
  refine SeqAt.RcNeAt.lists p1.isList p2.isList hz (by omega) it _ _ _ _ ?_
  rw [eb]
  exact ⟨.bl (!b),H,I,rfl,q⟩
 ·have mv:¬its.length=aL.length:=by simpa using hz
  have eb:b=false:=by rw [<-hb];simp [mv]
  subst eb
  exact SeqAt.RcNeAt.lists_lengths p1.isList p2.isList (by simpa using hz) (by omega) _ _ _ _ ⟨.bl true,H,I,rfl,q⟩
def zrH (hu:X.A.units+200<cLine):b_ X .NotEq y_:=⟨_,QY hu,fun ρ H st x y v w Q E s rx ry h=>by
 cases x with
 | ref n =>
  cases y with
  | ref m =>
   obtain ⟨xs,e1,h⟩:=jp (show Out X.K X.mg ρ H (yi st n _) (gV X.K X.mg Q) E from h)
   obtain ⟨ys,e2,h⟩:=jp h
   obtain ⟨a,vs,rfl,_,k1,k2⟩:=R.refL s rx e1
   obtain ⟨a',ws,rfl,_,k3,k4⟩:=R.refL s ry e2
   cases e:cY eq1 xs ys with
   | none=>simp only [e] at h;exact h.elim
   | some b=>simp only [e] at h;exact ⟨ρ,xs,ys,vs,ws,a,a',b,rfl,rfl,k1,k3,k2,k4,e,h.now s _ rfl⟩
  | _=>exact h.elim
 | _=>exact h.elim⟩
end
end Mi
namespace L2
open PySem PySem.Spec PyProof.Rows PySem.W
def uR (K:Frag) (a:Addr):It :=
 ⟨λi H=>∃xs x,aW K H a xs/\xs[i]?=some x,
  λi H v H'=>∃T x,H T=none/\v=.ref T/\H'=upd H T (.tup [.int i,x])/\∀xs,aW K H a xs->xs[i]?=some x,
  λi H=>∃xs,aW K H a xs/\xs.length<=i⟩
def uS (e it a:Addr) (k:Nat) (h:Heap):Prop:=(∃old,IsEnum h e it k old)/\IsTupIter h it a k
def QZ {prog:Program}{w:World}{A:Around}{it t:Addr}{xs:Array Value}(ne:t≠it) (hh:A.handled=none):Draws prog w A it [it,t] xs.size (λi x=>xs[i]?=some x) (p7 it t xs) where
 live:=λi h q=>let ⟨⟨o,ho,_⟩,_⟩:=q;⟨o,ho⟩
 frame:=λi h h' q k=>(gH (prog:=prog) (w:=w) ne).at_ q (k it (by simp)) (k t (by simp))
 item:=λi s Q E hi q hQ=>(gH ne).item q (Array.getElem?_eq_getElem hi) λh' q' sb=>hQ _ h' s.toks (Array.getElem?_eq_getElem hi) q' sb
 done:=λs Q E q hE=>(gH ne).stop hh q (Array.getElem?_eq_none (ym _)) hE
theorem Q0 {prog:Program}{w:World}{A:Around}{E:Aa}{s:Shared}{e it t:Addr}{i:Nat}{xs:Array Value}{old:Value}{Q:Option Value->Shared->Prop}(ne:t≠it) (hh:A.handled=none)
  (he:IsEnum s.heap e it i old) (hit:IsTupIter s.heap it t i) (p:IsTup s.heap t xs) (hi:xs.size<=i) (hQ:∀h',Heap.ExtBut it s.heap h'->Q none { s with heap:=h' }):wpAny (model prog w) A (pyNext (.ref e)) Q E s:=by
 have D:Draws prog w A.in1 it [it,t] i (λj x=>xs[j]?=some x/\j<i/\False) (λj h=>j=i/\p7 it t xs j h):=⟨λj h q=>let ⟨_,⟨o,ho,_⟩,_⟩:=q;⟨o,ho⟩,λj h h' q k=>⟨q.1,(gH (prog:=prog) (w:=w) ne).at_ q.2 (k it (by simp)) (k t (by simp))⟩,
  λj s Q E hj q _=>absurd q.1 (by omega),λs Q E q hE=>(gH ne).stop hh q.2 (Array.getElem?_eq_none hi) hE⟩
 exact wpAny_pyNext_enum_endD D he ⟨rfl,hit,p⟩ hQ
def Q1 {P:Program}{w:World}{K:Frag}{elts:List Expr}{kt:Nat}{pos:Pos}{e it a:Addr}(ne:e≠it):Turn P w K (.Tuple elts kt pos) (uR K a) [e,it] e (uS e it a) where
 mem:=by simp
 obj:=λi h st c hc=>by
  obtain ⟨⟨old,he⟩,⟨o1,e1,_,d1⟩⟩:=st
  simp only [yC,List.not_mem_nil,wt] at hc
  rcases hc with q|q<;>rw [q]
  ·exact ⟨_,he,λv z=>by cases z⟩
  ·exact ⟨_,e1,λv z=>by rw [d1] at z;cases z⟩
 keep:=λi h h' st k=>by
  obtain ⟨⟨old,he⟩,⟨o1,e1,r1⟩⟩:=st
  exact ⟨⟨old,k e (by simp) _ he⟩,⟨o1,k it (by simp) _ e1,r1⟩⟩
 item:=by
  intro X hP hw hK hc i pins s U H E I hf st hg
  subst hP hw hK
  obtain ⟨xs,x,hq,hx⟩:=hg
  obtain ⟨⟨old,he⟩,hit⟩:=st
  obtain ⟨its,rv,p,hz⟩:=I.tuple hq
  obtain ⟨u,hu,ru⟩:=rv.get hx
  have n1:∀c∈[e,it],a≠c:=λc h=>kZ I (hf c h) hq
  have na:a≠it:=n1 it (by simp)
  have Q2:a≠e:=n1 e (by simp)
  have bj:i<its.toArray.size:=by have:=(yt.mp hu).1;simpa using this
  refine wpAny_pyNext_enum_itemD (D:=QZ (A:=X.A.in1) na (I.ok.hd hc)) he ⟨hit,p⟩ bj ne (by simp;exact ⟨ne,λz=>Q2 z.symm⟩) λx1 h1 tk Q3 eo qr pT hsz kk=>⟨_,rfl,?_⟩
  have xu:x1=u:=by
   have h0:its.toArray[i]?=some x1:=Q3
   rw [List.getElem?_toArray,hu] at h0
   exact (Option.some.inj h0).symm
  subst xu
  refine wpAny_letOwnedTupleGo_enum (s:={ s with heap:=h1,toks:=tk+1 }) eo λh2 e2 sb=>?_
  have fr:H s.heap.objs.size=none:=I.hok.fresh (ym _)
  have up:∀c o,c≠e->h1.get? c=some o->h2.get? c=some o:=λc o n q=>sb.extBut _ _ n q
  have nz:s.heap.objs.size≠e:=Nat.ne_of_gt (yA he)
  have k2:∀c o,c∉[e,it]->s.heap.get? c=some o->h2.get? c=some o:=λc o nc q=>up c o (λz=>nc (by simp [z])) (kk c o (λz=>nc (by simp [z])) (λz=>nc (by simp [z])) q)
  refine ⟨.ref s.heap.objs.size,upd H s.heap.objs.size (.tup [.int i,x]),?_,rfl,⟨s.heap.objs.size,x,fr,rfl,rfl,λys hy=>by rw [I.tuple_inj hy hq];exact hx⟩,?_,λc cw=>?_⟩
  ·exact Inv.turnN (s:=s) (h':=h2) (t':=tk+1) I hf k2 (ym _) ⟨show 2<=sizeLine by decide,[.int i tk,x1],.cons ⟨_,rfl⟩ (.cons ru .nil),_,up _ _ nz pT,rfl,_,rfl⟩
  ·refine ⟨⟨x1,by rw [show ((i+1:Nat):Int)=(i:Int)+1 from rfl];exact e2⟩,let ⟨⟨o,q,r⟩,_⟩:=qr;⟨o,up _ _ ne.symm q,r⟩⟩
  ·have lt:∃o,s.heap.get? c=some o:=by
    simp only [yC,List.not_mem_nil,wt] at cw
    rcases cw with q|q<;>rw [q]
    ·exact ⟨_,he⟩
    ·exact let ⟨o,q,_⟩:=hit;⟨o,q⟩
   obtain ⟨o,q⟩:=lt
   have z:c≠s.heap.objs.size:=jb (yA q)
   rw [yE z]
   exact (hf c cw).1
 done:=by
  intro X hP hw hK hc i pins s U H E I hf st hg
  subst hP hw hK
  obtain ⟨xs,hq,hx⟩:=hg
  obtain ⟨⟨old,he⟩,hit⟩:=st
  obtain ⟨its,rv,p,hz⟩:=I.tuple hq
  have hl:=rv.length
  have n1:∀c∈[e,it],a≠c:=λc h=>kZ I (hf c h) hq
  refine Q0 (n1 it (by simp)) (I.ok.hd hc) he hit p (by simp;omega) λh' eb=>⟨rfl,?_⟩
  exact Inv.turnL (ch:=[e,it]) (t':=s.toks) I hf λc o nc q=>eb c o (λz=>nc (by simp [z])) q
 self:=λ_ _ _ _ _ st h=>by
  obtain ⟨⟨old,he⟩,_⟩:=st
  exact wpAny_pyIter_enum he h
def Q4 (K:Frag) (ta:TA):TI:=λU H R=>ta U H λvs H1=>∃a,vs=[.ref a]/\(∃xs,aW K H1 a xs)/\R (uR K a) H1
abbrev tG (h:Heap) (a:Addr):Heap:=h.push { cls:=.type "tuple_iterator", data:=.fields #[.ref a,.int 0 0] }
abbrev kx (h:Heap) (a:Addr):Heap:=(tG h a).push { cls:=.type "enumerate", data:=.fields #[.none,.bool false,.ref h.objs.size,rawInt 0,.none,.none] }
def Q5 (a:Addr) (xs:Array Value) :
  Meets (Builtin.«enumerate.__new__» ⟨[.type "enumerate", .ref a],[]⟩) (λ_ R s=>IsTup s.heap a xs/\R (.ok (.ret (.ref (tG s.heap a).objs.size))) { s with heap:=kx s.heap a }) :=
 .of_wp λprog w A R s h=>by
  obtain ⟨hp,g,d,tk,os⟩:=s
  obtain ⟨h1,h⟩:=h
  have uI:=sub_enumerate
  have H1:IsTup (Shared.heap ⟨hp,g,d,tk,os⟩) a xs:=h1
  obtain ⟨⟨cl,dd,dt,sl⟩,ho,pZ,n,hd⟩:=id H1
  replace pZ:cl=.type "tuple" := pZ
  replace hd:dt=.seq xs n:=hd
  subst pZ hd
  wp_walk using AutoSeq1.wpAny_loadPart' ho
  refine wpAny_stack_any λst=>zZ ?_
  split
  ·rename_i c _ _ _ _ _
   cases (c==Value.type "enumerate")
   all_goals (wp_walk using AutoSeq1.wpAny_loadPart' ho,iter_tuple H1;exact ⟨_,rfl,h⟩)
  ·wp_walk using AutoSeq1.wpAny_loadPart' ho,iter_tuple H1
   exact ⟨_,rfl,h⟩
def Q6 {prog:Program}{w:World}{A:Around}{E:Aa}{s:Shared}{a:Addr}{xs:Array Value}{Q:Aa}(h1:IsTup s.heap a xs)
  (h:uS (s.heap.objs.size+1) s.heap.objs.size a 0 (kx s.heap a)->Q (.ref (s.heap.objs.size+1)) { s with heap:=kx s.heap a }) :
  wpAny (model prog w) A (call (.type "enumerate") [.ref a]) Q E s:=by
 refine callType_new F.called_enumerate (by decide) (F.typeCall_enumerate_1 _) (F.newCall_enumerate_1 _) (λobj=>F.args_object_init_2 obj _) F.entry_enumerate_new (Q5 a xs) ⟨h1,?_⟩
 have z1:(tG s.heap a).objs.size=s.heap.objs.size+1:=Heap.size_push ..
 have g2:(kx s.heap a).get? (tG s.heap a).objs.size=some _:=yW _ rfl
 have g1:(kx s.heap a).get? s.heap.objs.size=some _:=yh _ (yW _ rfl)
 show _/\_
 rw [z1] at g2
 rw [z1]
 exact ⟨⟨_,g2,rfl⟩,h ⟨⟨_,g2⟩,⟨_,g1,rfl,rfl⟩⟩⟩
theorem Q7 {X:Cx} {elts:List Expr} {kt:Nat} {tp:Pos} {x:Expr} {ta:TA} {p pos:Pos} (hg:Gl X "enumerate") (hm:X.mg "enumerate" = none) (ha:PA X [x] ta) (hs:starEach [x] X.env=[(false,eval x X.env)]:=by rfl) :
  PI X (.Tuple elts kt tp) (.Call (.Name "enumerate" p) [x] [] pos) (Q4 X.K ta):=by
 intro pins s U H R I h
 refine Call_ (kM I hg hm Ep (PyProof.Rows.callWith_type1 (aP (ha pos pins s U H _ I h) λus s1 ⟨vs,H1,I1,r1,q1⟩=>?_) hs rfl))
 obtain ⟨a,e,⟨xs,hq⟩,q⟩:=q1
 subst e
 obtain ⟨u,rfl,ru⟩:=r1.one
 obtain rfl:u=Value.ref a:=ru
 obtain ⟨its,_,p1,_⟩:=I1.tuple hq
 have kk:∀b o,s1.heap.get? b=some o->(kx s1.heap a).get? b=some o:=λb o q=>yh _ (yh _ q)
 refine Q6 p1 λest=>wpAny_pyIter_enum est.1.choose_spec ?_
 have ne:∀(n:Nat),n+1≠n:=λn z=>by omega
 refine ⟨_,[s1.heap.objs.size+1,s1.heap.objs.size],_,_,H1,rfl,I1.kept (t':=s1.toks) kk,Q1 (ne _),est,λc hc=>?_,q⟩
 have le:s1.heap.objs.size<=c:=by
  simp only [yC,List.not_mem_nil,wt] at hc
  rcases hc with q|q<;>rw [q]<;>first|exact ym _|exact Nat.le_add_right _ _
 exact I1.fpOk le (I1.hok.fresh le)
end L2
namespace Mi
open PySem L2 PySem.W PySem.Spec
section
variable {X:Cx}{Er:XK}{fs:Ah}{pos:Pos}
def dQ (ft:Ak) (fe:Ai) (env:zm):Nat->List PV->Al
 | _,[],ys,st=>.ok (.ref st.length) (st++[.lst ys])
 | i,x::r,ys,st=>(cS (ft (some (.int i)::some x::env) st)).bind λb aq=>if b=true then (cS (fe (some (.int i)::some x::env) aq)).bind λy ay=>dQ ft fe env (i+1) r (ys++[y]) ay
   else dQ ft fe env (i+1) r ys aq
def tH:List PV->Mo (An)
 | [.tup xs],st=>if xs.length<=lim then .ok xs st else .stuck
 | _,_=>.stuck
def qL (fs:Ah) (ft:Ak) (fe:Ai):Ai:=λenv st=>(fs env st).bind λvs aq=>(tH vs aq).bind λxs aq=>dQ ft fe env 0 xs [] aq
def Q8 {α:Type}{K:Frag}{mg:Ab}{ρ:Ae}{H:Hp}{st:aa}{vs:An}{k:List PV->Mo α}{good:List Addr->Hp->α->aa->Prop}{E:XK}(h:Out K mg ρ H ((tH vs st).bind k) good E):∃xs,vs=[.tup xs]/\xs.length<=lim/\Out K mg ρ H (k xs st) good E:=by
 cases vs with
 | nil=>exact h.elim
 | cons v r =>
  cases r with
  | cons _ _=>cases v<;>exact h.elim
  | nil =>
   cases v with
   | tup xs =>
    by_cases hl:xs.length<=lim
    ·refine ⟨xs,rfl,hl,?_⟩
     have e:tH [.tup xs] st=.ok xs st:=zF hl
     rw [e] at h
     exact h
    ·have e:tH [.tup xs] st=.stuck:=zP hl
     rw [e] at h
     exact h.elim
   | _=>exact h.elim
theorem FG {elt e c:Expr} {x y:Str} {kt:Nat} {px py tp p ip:Pos} {scope:Scope} {ft:Ak} {fe:Ai} {N:Ad} (hc:X.calm=true) (S:du X.env.scope scope [x,y]) (eN:X.N=N) (cD:((".0" : Str)::([x,y]++N)).Nodup)
  (hm:X.mg "enumerate" = none) (ha:MA X Er [e] fs) (l8:∀cl C ae ag fp,MT (eE X scope cl [x,y] C ae ag fp (λ_ _=>False)) XN c ft) (he:∀cl C ae ag fp,ME (eE X scope cl [x,y] C ae ag fp (λ_ _=>False)) XN elt fe)
  (hx:scope.names.lookup x=some .local:=by rfl) (hy:scope.names.lookup y=some .local:=by rfl) (qt:Gl X "enumerate" := by rfl) (cC:starEach [e] X.env=[(false,eval e X.env)]:=by rfl)
  (hs:∀v,foldedSetIterable (.Call (.Name "enumerate" p) [e] [] ip) X.env v=pure v:=by intro _;rfl) :
  ME X Er (.ListComp elt [⟨.Tuple [.Name x px,.Name y py] kt tp,.Call (.Name "enumerate" p) [e] [] ip,[c],0⟩] scope pos) (qL fs ft fe):=by
 have hN:([x,y]++X.N).Nodup:=by rw [eN];exact (jH.mp cD).2
 have gF:∀cl C ae ag fp E,PG (eE X scope cl [x,y] C ae ag fp E) (.Tuple [.Name x px,.Name y py] kt tp) (vf X.K 2 (pj (wX 0) (pj (wX 1) vc))):=λcl C ae ag fp E=>vg (n:=2) hc
  (nW (ik (X:=eE X scope cl [x,y] C ae ag fp E) (i:=0) hN rfl (.inl (wB hx)) (.inr (wB hx)))
  (nW (ik (X:=eE X scope cl [x,y] C ae ag fp E) (i:=1) hN rfl (.inl (wB hy)) (.inr (wB hy))) vd))
 exact PE.weak (vG (te:=tM X.K X.mg XN fe) (tt:=oj X.K X.mg XN ft) hc S eN cD (Q7 qt hm ha cC) gF (λcl C ae ag fp=>Dj (l8 cl C ae ag fp)) (λcl C ae ag fp=>he cl C ae ag fp) hs) λU H Q ⟨env,st,ρ,re,rs,h⟩=>⟨env,st,ρ,re,rs,h.then λar H0 vs dD e0 s0 h0 us ru=>by
  obtain ⟨xs,rfl,uG,h0⟩:=Q8 h0
  obtain ⟨v,rfl,rv⟩:=ru.one
  obtain ⟨a,oh,rfl,FH,xD⟩:=rv
  refine ⟨a,rfl,⟨_,FH⟩,?_⟩
  have ln:lim=1000000:=rfl
  refine ⟨λi m ys H=>m+i=lim+1/\i<=xs.length/\ys.length<=i/\∃ps st ρ,Rs X.K X.mg ρ H ps ys/\aX X.K X.mg ρ H st/\Ext ar H0 ρ H/\Out X.K X.mg ρ H (dQ ft fe env i (xs.drop i) ps st) (gV X.K X.mg Q) Er,⟨lim+1,rfl,jB _,jB _,[],dD,ar,rfl,s0,Ext.refl,h0⟩,?_⟩
  rintro i m ys H ⟨hm,hi,hy,ps,st,ρ,cK,rs,ex,h⟩
  have hq:=ex.sqT FH
  have hR:=Rs.ext ex _ xD
  cases hx:xs[i]? with
  | none =>
   have hl:xs.length<=i:=kJ.mp hx
   rw [lS hl] at h
   exact .inl ⟨⟨oh,hq,by rw [<-hR.len];exact hl⟩,jo (by omega),λl hl=>Out.newList h rs cK hl⟩
  | some x =>
   have bj:i<xs.length:=(yt.mp hx).1
   have qM:xs.drop i=x::xs.drop (i+1):=by
    rw [wa bj]
    congr 1
    exact (yt.mp hx).2
   rw [qM] at h
   obtain ⟨v,hv,rv⟩:=hR.get hx
   refine .inr ⟨⟨oh,v,hq,hv⟩,jo (by omega),λv' H' y=>?_⟩
   obtain ⟨T,x',hT,rfl,rfl,y⟩:=y
   have e2:=y oh hq
   rw [hv] at e2
   cases e2
   have bX:Ext ρ H ρ (upd H T (.tup [.int i,v])):=Ext.new hT
   refine ⟨T,[.int i,v],rfl,.inl (.inl jf),rfl,.int i,[v],rfl,v,[],rfl,rfl,[some (.int i),some v],rfl,rfl,?_⟩
   have iM:bg X.K X.mg ρ (upd H T (.tup [.int i,v])) (some (.int i)::some x::env) (some (.int i)::some v::U):=(((re.ext (e0.trans ex)).ext bX).cons (R.ext bX x rv)).cons rfl
   refine ⟨_,st,ρ,iM,rs.new hT,gO (Out.ext h bX) λaj H3 b aS e3 s3 h3=>?_⟩
   obtain ⟨m,rfl⟩:∃m',m=m'+1:=⟨m-1,by omega⟩
   cases b with
   | true =>
    refine ⟨_,aS,aj,iM.ext e3,s3,gO h3 λaE H4 y ff e4 s4 h4 v4 r4=>⟨m,wv m,by omega,by omega,by simp;omega,ps++[y],ff,aE,Rs.snoc r4 (Rs.ext ((bX.trans e3).trans e4) ps cK),s4,((ex.trans bX).trans e3).trans e4,h4⟩⟩
   | false=>exact ⟨m,wv m,by omega,by omega,by omega,ps,aS,aj,Rs.ext (bX.trans e3) ps cK,s3,(ex.trans bX).trans e3,h3⟩⟩
end
end Mi
abbrev Mi.At (n:Nat):Option Mi.PV:=some (.ref n)
abbrev Mi.Au (n:Nat):Option Mi.PV:=some (.int n)
abbrev Mi.Ar (i:Int):=Mi.mC (.int i)
abbrev Mi.As (z:PySem.Str):=Mi.mC (.str z)
namespace FK42
open PySem L2 PySem.W Mi
noncomputable def top (i:Nat):Stmt:=PySem.Challenge.pw_foreknown_k42_best_form_by_form.main.body.getD i (.Pass ⟨0,0,0,0⟩)
noncomputable abbrev FI:Stmt:=top 18
noncomputable abbrev FJ:Stmt:=top 19
noncomputable abbrev FK:Stmt:=top 21
noncomputable abbrev FL:Stmt:=top 22
noncomputable abbrev FN:Stmt:=top 23
noncomputable abbrev zfr:Stmt:=top 24
noncomputable abbrev FP:Stmt:=top 25
noncomputable abbrev FQ:Stmt:=top 26
noncomputable abbrev FR:Stmt:=top 30
noncomputable abbrev FT:Stmt:=top 20
noncomputable abbrev FU:Stmt:=top 32
noncomputable abbrev FV:Stmt:=top 33
noncomputable abbrev FW:Stmt:=top 31
noncomputable abbrev FX:Stmt:=top 27
noncomputable abbrev FY:Stmt:=top 28
noncomputable abbrev zdR:Stmt:=top 29
noncomputable abbrev F3:Stmt:=top 34
noncomputable abbrev F5:Stmt:=top 35
noncomputable abbrev zfs:Stmt:=top 44
noncomputable abbrev F6:Stmt:=top 6
noncomputable abbrev F8:Stmt:=top 13
noncomputable abbrev F9:Stmt:=top 9
noncomputable abbrev zft:Stmt:=top 11
noncomputable abbrev zfu:Stmt:=inClass (top 15) 0
noncomputable abbrev F_:Stmt:=top 8
noncomputable abbrev zfv:Stmt:=top 12
noncomputable abbrev Ga:Stmt:=top 2
noncomputable abbrev Gb:Stmt:=top 3
noncomputable abbrev zfw:Stmt:=top 10
noncomputable abbrev zfx:Stmt:=inClass (top 15) 2
noncomputable abbrev Ge:Stmt:=top 1
noncomputable abbrev Gf:Stmt:=top 4
noncomputable abbrev zfy:Stmt:=inClass (top 15) 1
noncomputable abbrev zfz:Stmt:=inClass (top 15) 3
noncomputable abbrev zdS:Stmt:=top 5
noncomputable abbrev zfA:Stmt:=top 14
noncomputable abbrev Gg:Stmt:=top 16
noncomputable abbrev Gh:Stmt:=top 41
noncomputable abbrev z_:Stmt:=top 42
noncomputable abbrev zfB:Stmt:=top 43
noncomputable abbrev Gi:Stmt:=top 36
noncomputable abbrev zfC:Stmt:=top 40
noncomputable abbrev Gj:Stmt:=top 38
noncomputable abbrev Gk:Stmt:=top 37
noncomputable abbrev zdU:Stmt:=top 45
noncomputable abbrev zdV:Stmt:=top 46
noncomputable def insOf (c:Str):Bool:=decide (c = "Holding")
noncomputable def excOf (c:Str):Bool:=false
noncomputable def isT:IsT where
 isx c:=false
 sub c B :=  none
 subT c n :=  none
 tyC _ _:=none
structure Txt (w:World) (K:Frag) (mg:Ab):Prop where
 f__law_at:FnF K mg "_law_at" FI ["_law_script", "_law_k"]
 f__law_pick:FnF K mg "_law_pick" FJ ["_law_cell", "_law_turn_here", "_law_many"]
 f__law_word:FnF K mg "_law_word" FK ["_law_cell"]
 f__law_value:FnF K mg "_law_value" FL ["_law_cell"]
 f__law_atom:FnF K mg "_law_atom" FN ["_law_cell", "_law_turn_here", "_law_scope"]
 f__law_atoms:FnF K mg "_law_atoms" zfr ["_law_cell", "_law_many", "_law_scope"]
 f__law_op:FnF K mg "_law_op" FP ["_law_k"]
 f__law_step:FnF K mg "_law_step" FQ ["_law_cell", "_law_name_here", "_law_scope", "_law_heads"]
 f__law_long:FnF K mg "_law_long" FR ["_law_script"]
 f__law_name:FnF K mg "_law_name" FT ["_law_seed", "_law_k"]
 f__law_turn:FnF K mg "_law_turn" FU ["_law_cell", "_law_aim"]
 f__law_ring:FnF K mg "_law_ring" FV ["_law_script"]
 f__law_deep:FnF K mg "_law_deep" FW ["_law_script"]
 f__law_end:FnF K mg "_law_end" FX ["_law_cell", "_law_way", "_law_scope", "_law_heads"]
 f__law_block:FnF K mg "_law_block" FY ["_law_script", "_law_f", "_law_b", "_law_scope", "_law_heads", "_law_seed"]
 f__law_small:FnF K mg "_law_small" zdR ["_law_script"]
 f__law_program:FnF K mg "_law_program" F3 ["_law_script"]
 f__law_lines:FnF K mg "_law_lines" F5 ["_law_block_here"]
 f__law_held:FnF K mg "_law_held" zfs ["_law_cell", "_law_program_here"]
 f_functions_by_name:FnF K mg "functions_by_name" F6 ["program"]
 f_marked:FnF K mg "marked" F8 ["names"]
 f_bits_of:FnF K mg "bits_of" F9 ["truths"]
 f_held_bits:FnF K mg "held_bits" zft ["function", "held"]
 n_Holding:NwF K mg "Holding" "Holding.__init__" zfu ["self", "program", "held"]
 f_is_later_at:FnF K mg "is_later_at" F_ ["bits", "place"]
 f_later_params:FnF K mg "later_params" zfv ["function", "bits"]
 f_lines_of:FnF K mg "lines_of" Ga ["block"]
 f_aim_of:FnF K mg "aim_of" Gb ["line"]
 f_need:FnF K mg "need" zfw ["atoms", "later"]
 m_Holding_goal_of:MtF K mg "Holding" "goal_of" "Holding.goal_of" zfx ["self", "aim", "later"]
 f_is_step:FnF K mg "is_step" Ge ["line"]
 f_atoms_of:FnF K mg "atoms_of" Gf ["line"]
 m_Holding_makes_later:MtF K mg "Holding" "makes_later" "Holding.makes_later" zfy ["self", "name", "step", "later"]
 m_Holding_best_form:MtF K mg "Holding" "best_form" "Holding.best_form" zfz ["self", "function", "bits"]
 f_aims_of:FnF K mg "aims_of" zdS ["block"]
 f_aimed_pairs:FnF K mg "aimed_pairs" zfA ["function", "goals"]
 f_best:FnF K mg "best" Gg ["program", "bits", "held"]
 f__law_whole:FnF K mg "_law_whole" Gh ["_law_found"]
 f__law_is_form:FnF K mg "_law_is_form" z_ ["_law_form_here"]
 f__law_is_parting:FnF K mg "_law_is_parting" zfB ["_law_found"]
 f__law_by:FnF K mg "_law_by" Gi ["_law_program_here", "_law_name_here"]
 f__law_later:FnF K mg "_law_later" zfC ["_law_function", "_law_bits"]
 f__law_late:FnF K mg "_law_late" Gj ["_law_atom_here", "_law_later_here"]
 f__law_aims:FnF K mg "_law_aims" Gk ["_law_function"]
 f__law_form:FnF K mg "_law_form" zdU ["_law_program_here", "_law_name_here", "_law_bits", "_law_held_here"]
 f_law:FnF K mg "law" zdV ["_law_script"]
 b_all:mg "all" = none
 b_any:mg "any" = none
 b_bool:mg "bool" = none
 b_enumerate:mg "enumerate" = none
 b_int:mg "int" = none
 b_isinstance:mg "isinstance" = none
 b_len:mg "len" = none
 b_list:mg "list" = none
 b_range:mg "range" = none
 b_str:mg "str" = none
 b_sum:mg "sum" = none
 b_tuple:mg "tuple" = none
 b_zip:mg "zip" = none
 d_bits_by_name:FldF K mg "bits_by_name" insOf excOf
 d_pairs:FldF K mg "pairs" insOf excOf
 is:IsF K mg isT
section
variable {P:Program}{w:World}{K:Frag}{mg:Ab}{base:Heap}
set_option hygiene false in
local macro_rules
|`(tactic|exact $s:str)=>do
 let ts<-(s.getString.splitOn " ").toArray.mapM λ(w:String)=>do
  let p:=(w.drop 1).toString
  let i:Lean.TSyntax `term:=if p.all Char.isDigit then ⟨(Lean.Syntax.mkNumLit p).raw⟩ else ⟨(Lean.mkIdent p.toName).raw⟩
  match w.toList.headD 'a' with
  |'a'=>`(tactic|refine $i ?_ ?_)
  |'b'=>`(tactic|exact (zj $i))
  |'c'=>`(tactic|exact $i)
  |'d'=>`(tactic|refine $i ?_)
  |'e'=>`(tactic|refine zO ($i T) (hr.mono (by decide)) zQ ?_)
  |'f'=>`(tactic|refine zA $i ?_ ?_)
  |'g'=>`(tactic|refine zJ ?_ ?_ ?_ ?_)
  |'h'=>`(tactic|exact λ_ _=>rfl)
  |'i'=>`(tactic|exact (zK (zy hr)))
  |'j'=>`(tactic|refine zR $i ?_ ?_)
  |'k'=>`(tactic|refine yv ($i (zy hr)) ?_ ?_)
  |'l'=>`(tactic|refine zh ?_ ?_)
  |'m'=>`(tactic|refine yw ?_ ?_ ?_)
  |'n'=>`(tactic|exact zq)
  |'o'=>`(tactic|exact zt)
  |'p'=>`(tactic|refine j8 (jA rfl rfl) rfl ?_ ?_ ?_)
  |'q'=>`(tactic|refine jE we T.b_tuple jK ?_)
  |'r'=>`(tactic|refine jc wn T.b_len wg ?_)
  |'s'=>`(tactic|refine zO ($i T) (hr.mono (by decide)) O5 ?_)
  |'t'=>`(tactic|refine zD ?_ ?_)
  |'u'=>`(tactic|exact (QR (zy hr) (zK (zy hr))))
  |'v'=>`(tactic|intro _ _ _ _ _)
  |'w'=>`(tactic|refine jc (NY T.is) T.b_isinstance Oj ?_)
  |'x'=>`(tactic|refine zO ($i T) (hr.mono (by omega)) zQ ?_)
  |'y'=>`(tactic|refine zI ?_)
  |'z'=>`(tactic|refine oz (N:=["_law_form_here"]) rfl (by exact ⟨rfl,by decide +kernel,by decide +kernel,rfl,by show ∀y:Str×NameKind,y∈_->y.2=NameKind.free->List.lookup y.1 (zW z_).names=some NameKind.cell;decide +kernel⟩) rfl (by decide +kernel) ?_ ?_)
  |'A'=>`(tactic|refine wK ($i (zy hr)) ?_ ?_)
  |'B'=>`(tactic|refine zM ?_)
  |'C'=>`(tactic|refine Oc T.b_range ?_)
  |'D'=>`(tactic|exact zS)
  |'E'=>`(tactic|refine yf ?_)
  |'F'=>`(tactic|refine yv $i ?_ ?_)
  |'G'=>`(tactic|exact (zj 0))
  |'H'=>`(tactic|refine zO Gm (hr.mono (by omega)) zQ ?_)
  |'I'=>`(tactic|refine NN (λc m h=>$i T h) ?_ (hr.mono (by decide)) zQ ?_)
  |'J'=>`(tactic|exact yz)
  |'K'=>`(tactic|refine zA yp ?_ ?_)
  |'L'=>`(tactic|refine $i ?_ ?_ ?_)
  |'M'=>`(tactic|exact (zj 1))
  |'N'=>`(tactic|refine $i ?_ ?_ ?_ ?_ ?_)
  |'O'=>`(tactic|refine zA yB ?_ ?_)
  |'P'=>`(tactic|exact (qe T.b_tuple jK))
  |'Q'=>`(tactic|refine jc (P5 rfl) T.b_all P6 ?_)
  |'R'=>`(tactic|exact (zy hr))
  |'S'=>`(tactic|exact (zj 2))
  |'T'=>`(tactic|exact (wf 2 $i))
  |'U'=>`(tactic|refine Pb (jA rfl rfl) rfl T.b_enumerate ?_ ?_ ?_)
  |'V'=>`(tactic|refine zO (Gn T 12) (hr.mono (by decide)) zQ ?_)
  |'W'=>`(tactic|refine yv (yP (zy hr)) ?_ ?_)
  |'X'=>`(tactic|refine wK (QO (zy hr) (zby (zy hr))) ?_ ?_)
  |'Y'=>`(tactic|refine jg ?_)
  |'Z'=>`(tactic|exact Aq.nd)
  |'0'=>`(tactic|exact Av.nd)
  |'1'=>`(tactic|refine NV $i ?_)
  |'2'=>`(tactic|exact (zj 3))
  |'3'=>`(tactic|exact tI.nd)
  |'4'=>`(tactic|exact Aw.nd)
  |'5'=>`(tactic|refine jE (PC rfl) T.b_list Om ?_)
  |'6'=>`(tactic|exact w9.nd)
  |'8'=>`(tactic|exact ⟨rfl,by decide +kernel,by decide +kernel,rfl,by show ∀y:Str×NameKind,y∈_->y.2=NameKind.free->List.lookup y.1 (zW $i).names=some NameKind.cell;decide +kernel⟩)
  |'9'=>`(tactic|exact ⟨rfl,by decide +kernel,by decide +kernel,by show ∀y:Str×NameKind,y∈_->y.2=NameKind.free->List.lookup y.1 (zW $i).names=some NameKind.cell;decide +kernel⟩)
  |'#'=>`(tactic|first|exact Or.inl rfl|exact Or.inr rfl)
  |'$'=>`(tactic|first|exact .inl rfl|exact .inr rfl|assumption)
  |'7'=>`(tactic|exact ⟨rfl,rfl,rfl,by decide +kernel,rfl,by decide +kernel,by decide +kernel⟩)
  |_=>Lean.Macro.throwUnsupported
 `(tactic|($[$ts]*))
theorem zjD:au ["_law_script", "_law_k", "_law_number"] ["_law_script", "_law_k"] (zW FI):=by exact "7"
noncomputable def Ax:Aj :=
  (yb (ze zV (ze jq (zc 2) (zc 2)) (Ar 999983)))
noncomputable def Ay:Aj :=
  zw (zH 2 (ze zV (ze ya (ze ya (zu xF (zd (lg (zc 0) d7 (cP (Ar 63))) zo)) (ze jq (Ar 977) (zc 1))) (Ar 13)) (Ar 1000003))) (Ax)
noncomputable def Az:Aj :=
  zw (zY (mB (ze oLt (zc 1) (zu yS (zd (zc 0) zo))))
  (yb (ze zv (zc 0) (zc 1)))
  yd) (Ay)
noncomputable def jr:Al:=yq 2 3 (Az)
def wI (T:Txt w K mg):bf P w K mg base "_law_at" 1 jr:=T.f__law_at.ok (k:=0) zjD λ_ _ _ _ _ _ _ hr=>by
 exact "t m Fzcz M r l G o y E g i G M h J t j2 K O O"
 refine jc (Pg rfl) T.b_sum Ph ?_
 exact "l LzeP G czeO dzdu n o fwj n M n n czjD.nd y E K fwj S S n"
theorem Q9:au ["_law_cell", "_law_turn_here", "_law_many"] ["_law_cell", "_law_turn_here", "_law_many"] (zW FJ):=by exact "7"
noncomputable def Q_:Aj :=
  (yb (ze zV (ze zV (ze ya (ze jq (ze zV (zc 0) (Ar 1000003)) (ze ya (Ar 48271) (ze jq (Ar 2) (zc 1)))) (ze jq (Ar 7919) (zc 1))) (Ar 999983)) (zc 2)))
noncomputable def jG:Al:=yq 3 3 (Q_)
def wR (T:Txt w K mg):bf P w K mg base "_law_pick" 1 jG:=T.f__law_pick.ok (k:=0) Q9 λ_ _ _ _ _ _ _ hr=>by
 exact "y E K K O fwj K G n O n fwj n M fwj n M n S"
theorem zcT:au ["_law_cell", "_law_word_here", "_law_k"] ["_law_cell"] (zW FK):=by exact "7"
noncomputable def Ra:Aj :=
  zw (zH 1 (As "")) (zw (yV (bP (zd (ze ya (Ar 1) (ze zV (zc 0) (Ar 8))) zo)) (gN 2)
  (zw (zH 1 (ze ya (zc 1) (ze zv (As "abcdefghijklmnopqrstuvwxyz") (ze zV (zc 0) (Ar 26)))))
  (zH 0 (ze yO (zc 0) (Ar 5))))) (yb (zc 1)))
noncomputable def g8:Al:=yq 1 3 (Ra)
def zb9 (T:Txt w K mg):bf P w K mg base "_law_word" 1 g8:=T.f__law_word.ok (k:=0) zcT λ_ _ _ _ _ _ _ hr=>by
 exact "t j1 D czcT.nd t p C l O n K G n o TzcT.nd t j1 O M g i D K G n h czcT.nd y j0 fjw G n czcT.nd y E M"
theorem zfG:au ["_law_cell", "_law_some"] ["_law_cell"] (zW FL):=by exact "7"
noncomputable def Gp:Aj :=
  zw (zY (mB (ze ye (ze zV (zc 0) (Ar 7)) (Ar 0)))
  (yb (ze zV (zc 1) (Ar 10)))
  yd) (zw (zY (mB (ze ye (ze zV (zc 0) (Ar 7)) (Ar 1)))
  (yb (ze jC (ze zV (zc 1) (Ar 1999999999999999999)) (Ar 999999999999999999)))
  yd) (zw (zY (mB (ze ye (ze zV (zc 0) (Ar 7)) (Ar 2)))
  (yb (zu g8 (zd (zc 1) zo)))
  yd) (zw (zY (mB (ze ye (ze zV (zc 0) (Ar 7)) (Ar 3)))
  (yb (zC zo))
  yd) (zw (zY (mB (ze ye (ze zV (zc 0) (Ar 7)) (Ar 4)))
  (yb (zC (zd (ze zV (zc 1) (Ar 7)) (zd (zC (zd (zu g8 (zd (zc 1) zo)) (zd (ze jC (Ar 0) (ze zV (zc 1) (Ar 5))) zo))) (zd (zC zo) zo)))))
  yd) (zw (zY (mB (ze ye (ze zV (zc 0) (Ar 7)) (Ar 5)))
  (yb (qD [((zu g8 (zd (zc 1) zo)),(ze zV (zc 1) (Ar 5))),((zu g8 (zd (ze ya (ze yO (zc 1) (Ar 3)) (Ar 1)) zo)),(zC (zd (ze zV (zc 1) (Ar 3)) (zd (zu g8 (zd (ze yO (zc 1) (Ar 9)) zo)) zo))))]))
  yd) (yb (ze zV (zc 1) (Ar 2))))))))
noncomputable def Gq:Aj :=
  zw (zH 0 (ze zV (zc 0) (ze wZ (Ar 10) (Ar 24)))) (zw (zH 1 (ze yO (zc 0) (Ar 7))) (Gp))
noncomputable def AA:Al:=yq 1 2 (Gq)
def zrT (T:Txt w K mg):bf P w K mg base "_law_value" 2 AA:=T.f__law_value.ok (k:=1) zfG λ_ _ _ _ _ _ _ hr=>by
 exact "t j0 K G fza8 n n czfG.nd t j1 fjw G n czfG.nd t m W K G n n y E K M n J t m W K G n n y E fwL K M n n J t m W K G n n y E ezb9 l M o J t m W K G n n y E B o J t m W K G n n y E B l K M n l B l ezb9 l M o l fwL n K M n o l B o o J t m W K G n n y E"
 refine P_ ?_ (by simp) (by decide)
 exact "LziT ezb9 l M o K M n LziT ezb9 l O fjw M n n o B l K M n l ezb9 l fjw M n o o czqX J y E K M n"
theorem zjG:au ["_law_cell", "_law_turn_here", "_law_scope", "_law_k"] ["_law_cell", "_law_turn_here", "_law_scope"] (zW FN):=by exact "7"
noncomputable def Gr:Aj :=
  zw (zY (mB (ze oLt (zc 3) (zu yS (zd (zc 2) zo))))
  (yb (zC (zd (As "of") (zd (ze zv (zc 2) (zc 3)) zo))))
  yd) (yb (zC (zd (As "is") (zd (zu AA (zd (ze ya (ze jq (ze zV (zc 0) (ze wZ (Ar 10) (Ar 24))) (ze ya (zc 1) (Ar 1))) (zc 1)) zo)) zo))))
noncomputable def Gs:Aj :=
  zw (zH 3 (zu jG (zd (zc 0) (zd (zc 1) (zd (ze ya (zu yS (zd (zc 2) zo)) (Ar 2)) zo))))) (Gr)
noncomputable def oJ:Al:=yq 3 4 (Gs)
def zfI (T:Txt w K mg):bf P w K mg base "_law_atom" 3 oJ:=T.f__law_atom.ok (k:=2) zjG λ_ _ _ _ _ _ _ hr=>by
 exact "t j3 ewR l G l M l O r l S o n o czjG.nd t m Fzcz 2 r l S o y E B l D l g i S 2 h o J y E B l D l ezrT l O fwj K G fza8 n n O M n M o o"
theorem Rb:au ["_law_cell", "_law_many", "_law_scope"] ["_law_cell", "_law_many", "_law_scope"] (zW zfr):=by exact "7"
noncomputable def Rc:Aj :=
  (yb (zu jx (zd (jd (bP (zd (zc 1) zo)) (zu oJ (zd (zc 1) (zd (ze ya (Ar 4) (zc 0)) (zd (zc 3) zo))))) zo)))
noncomputable def ky:Al:=yq 3 3 (Rc)
theorem zcb (T:Txt w K mg):bf P w K mg base "_law_atoms" 4 ky:=T.f__law_atoms.ok (k:=3) Rb λ_ _ _ _ _ _ _ hr=>by
 exact "y E q l"
 refine oz (N:=["_law_cell", "_law_many", "_law_scope"]) rfl (by exact "8zfr") rfl (by decide +kernel) ?_ ?_
 exact "C l M o v szfI l M l O n G l 2 o o"
theorem zdW:au ["_law_k", "_law_some"] ["_law_k"] (zW FP):=by exact "7"
noncomputable def Gu:Aj :=
  zw (zY (mB (ze oLt (zc 0) (zu yS (zd (zc 1) zo))))
  (yb (ze zv (zc 1) (zc 0)))
  yd) (yb (ze zv (zc 1) (ze zV (zc 0) (Ar 5))))
noncomputable def Gv:Aj :=
  zw (zH 1 (yU (zd (zC (zd (As "down") (zd (Ar 1) zo))) (zd (zC (zd (As "head") (zd (Ar 1) zo))) (zd (zC (zd (As "rest") (zd (Ar 1) zo))) (zd (zC (zd (As "item") (zd (Ar 2) zo))) (zd (zC (zd (As "field") (zd (Ar 2) zo))) (zd (zC (zd (As "add") (zd (Ar 2) zo))) (zd (zC (zd (As "sub") (zd (Ar 2) zo))) (zd (zC (zd (As "mul") (zd (Ar 2) zo))) zo)))))))))) (zw (zH 1 (ze ya (zc 1) (yU (zd (zC (zd (As "div") (zd (Ar 2) zo))) (zd (zC (zd (As "rem") (zd (Ar 2) zo))) (zd (zC (zd (As "less") (zd (Ar 2) zo))) (zd (zC (zd (As "same") (zd (Ar 2) zo))) (zd (zC (zd (As "kind") (zd (Ar 1) zo))) (zd (zC (zd (As "front") (zd (Ar 2) zo))) (zd (zC (zd (As "many") (zd (Ar 1) zo))) zo)))))))))) (zw (zH 1 (ze ya (zc 1) (yU (zd (zC (zd (As "put") (zd (Ar 3) zo))) (zd (zC (zd (As "set") (zd (Ar 3) zo))) zo))))) (Gu)))
noncomputable def AB:Al:=yq 1 2 (Gv)
def zrW (T:Txt w K mg):bf P w K mg base "_law_op" 1 AB:=T.f__law_op.ok (k:=0) zdW λ_ _ _ _ _ _ _ hr=>by
 exact "t j1 Y l B l D l n o l B l D l n o l B l D l n o l B l D l n o l B l D l n o l B l D l n o l B l D l n o l B l D l n o o czdW.nd t j1 O M Y l B l D l n o l B l D l n o l B l D l n o l B l D l n o l B l D l n o l B l D l n o l B l D l n o o czdW.nd t j1 O M Y l B l D l n o l B l D l n o o czdW.nd t m Fzcz G r l M o y E g i M G h J y E g i M K G n h"
theorem zfK:au ["_law_cell", "_law_name_here", "_law_scope", "_law_heads", "_law_head", "_law_op_here"] ["_law_cell", "_law_name_here", "_law_scope", "_law_heads"] (zW FQ):=by exact "7"
noncomputable def Rf:Aj :=
  zw (zY (mB (ze ye (zu jG (zd (zc 0) (zd (Ar 2) (zd (Ar 5) zo)))) (Ar 0)))
  (zw (zH 4 (ze zv (zc 3) (zu jG (zd (zc 0) (zd (Ar 3) (zd (zu yS (zd (zc 3) zo)) zo))))))
  (yb (zC (zd (As "call") (zd (zc 1) (zd (ze zv (zc 4) (Ar 0)) (zd (zu ky (zd (zc 0) (zd (ze zv (zc 4) (Ar 1)) (zd (zc 2) zo)))) zo)))))))
  yd) (zw (zH 5 (zu AB (zd (zu jG (zd (zc 0) (zd (Ar 1) (zd (Ar 29) zo)))) zo))) (yb (zC (zd (As "let") (zd (zc 1) (zd (ze zv (zc 5) (Ar 0)) (zd (zu ky (zd (zc 0) (zd (ze zv (zc 5) (Ar 1)) (zd (zc 2) zo)))) zo)))))))
noncomputable def lD:Al:=yq 4 6 (Rf)
def zfL (T:Txt w K mg):bf P w K mg base "_law_step" 5 lD:=T.f__law_step.ok (k:=4) zfK λ_ _ _ _ _ _ _ hr=>by
 exact "t m W ewR l G l n l n o n t j4 g i 2 ewR l G l n l r l 2 o o h czfK.nd y E B l D l M l g i b4 n h l ezcb l G l g i b4 n h l S o o J t j5 ezrW l ewR l G l n l n o o czfK.nd y E B l D l M l g i b5 n h l ezcb l G l g i b5 n h l S o o"
theorem zbJ:au ["_law_script", "_law_cell", "_law_heads", "_law_scope", "_law_steps", "_law_k", "_law_name_here"] ["_law_script"] (zW FR):=by exact "7"
noncomputable def Rg:Aj :=
  zw (zH 1 (ze zV (zu jr (zd (zc 0) (zd (Ar 6) zo))) (ze wZ (Ar 10) (Ar 9)))) (zw (zH 2 (yU (zd (zC (zd (As "long") (zd (Ar 2) zo))) zo))) (zw (zH 3 (yU (zd (As "x") (zd (As "y") zo)))) (zw (zH 4 (yU zo)) (zw (yV (bP (zd (ze zV (zc 1) (Ar 60)) zo)) (gN 5)
  (zw (zH 6 (ze ya (As "n") (zu mK (zd (ze ya (ze zV (ze yO (zc 1) (Ar 60)) (Ar 100000)) (zc 5)) zo))))
  (zw (yK (yF yJ (zc 4) (zu lD (zd (ze ya (zu jr (zd (zc 0) (zd (ze ya (Ar 7) (ze zV (zc 5) (Ar 50))) zo))) (zc 5)) (zd (zc 6) (zd (zc 3) (zd (zc 2) zo)))))))
  (yK (yF yJ (zc 3) (zc 6)))))) (yb (zC (zd (zC (zd (As "long") (zd (zC (zd (As "x") (zd (As "y") zo))) (zd (zC (zd (zu jx (zd (zc 4) zo)) (zd (zC (zd (As "go") (zd (As "long") (zd (zu ky (zd (zc 1) (zd (Ar 2) (zd (zc 3) zo)))) zo)))) zo))) zo)))) zo)))))))
noncomputable def AD:Al:=yq 1 7 (Rg)
def zrZ (T:Txt w K mg):bf P w K mg base "_law_long" 6 AD:=T.f__law_long.ok (k:=5) zbJ λ_ _ _ _ _ _ _ hr=>by
 exact "t j1 K ewI l G l n o fza8 n n czbJ.nd t j2 Y l B l D l n o o czbJ.nd t j3 Y l D l D o czbJ.nd t j4 Y o czbJ.nd t p C l K M n o"
 exact (wf 5 zbJ.nd)
 exact "t j6 O D"
 refine jE Ex T.b_str sN ?_
 exact "l O K fjw M n n b5 o czbJ.nd t djJ ajT b4 ezfL l O ewI l G l O n K b5 n o b5 l b6 l 2 l S o y djJ ajT 2 b6 y E B l B l D l B l D l D o l B l q l b4 o l B l D l D l ezcb l M l n l 2 o o o o o"
theorem zdX:au ["_law_seed", "_law_k", "_law_some", "_law_signs", "_law_place"] ["_law_seed", "_law_k"] (zW FT):=by exact "7"
noncomputable def Gw:Aj :=
  zw (zY (mB (ze ye (ze zV (zc 0) (Ar 4)) (Ar 2)))
  (yb (ze ya (As "n") (zu mK (zd (ze ya (ze zV (ze yO (zc 0) (Ar 4)) (Ar 900000)) (zc 1)) zo))))
  yd) (yb (ze zv (ze ya (zc 2) (yU (sR ["kind", "same", "put", "field", "many"]))) (ze zV (ze ya (ze yO (zc 0) (Ar 4)) (zc 1)) (Ar 20))))
noncomputable def AE:Aj :=
  zw (zY (mB (ze ye (ze zV (zc 0) (Ar 4)) (Ar 1)))
  (zw (zH 4 (ze zV (ze yO (zc 0) (Ar 4)) (Ar 7)))
  (yb (ze ya (ze ya (ze ya (As "u") (ze jq (As "7") (zc 4))) (ze zv (zc 3) (ze zV (ze ya (ze yO (zc 0) (Ar 28)) (zc 1)) (Ar 36)))) (ze jq (As "e") (ze jC (Ar 6) (zc 4))))))
  yd) (Gw)
noncomputable def AF:Aj :=
  zw (zY (mB (ze ye (ze zV (zc 0) (Ar 4)) (Ar 0)))
  (yb (ze zv (zc 3) (ze zV (ze ya (ze yO (zc 0) (Ar 4)) (zc 1)) (Ar 26))))
  yd) (AE)
noncomputable def Gx:Aj :=
  zw (zH 2 (yU (sR ["of", "is", "let", "call", "go", "if", "give", "fail", "else", "end", "fun", "add", "head", "rest", "item"]))) (zw (zH 3 (As "abcdefghijklmnopqrstuvwxyz0123456789")) (AF))
noncomputable def wy:Al:=yq 2 5 (Gx)
theorem zcc (T:Txt w K mg):bf P w K mg base "_law_name" 1 wy:=T.f__law_name.ok (k:=0) zdX λ_ _ _ _ _ _ _ hr=>by
 exact "t j2 Y dze9"
 decide +kernel
 exact "czdX.nd t j3 D czdX.nd t m W K G n n y E g i 2 K O fjw G n M n h J t m W K G n n t j4 K fjw G n n czdX.nd y E O O O D fwj D b4 g i 2 K O fjw G n M n h fwj D fwL n b4 J t m W K G n n y E O D"
 refine jE Ex T.b_str sN ?_
 exact "l O K fjw G n n M o J y E g i O S Y dze9"
 decide +kernel
 exact "K O fjw G n M n h"
theorem zcU:au ["_law_cell", "_law_aim", "_law_step_here", "_law_atoms_here"] ["_law_cell", "_law_aim"] (zW FU):=by exact "7"
noncomputable def Rh:Aj :=
  zw (zH 2 (zC (zd (As "let") (zd (As "z") (zd (As "down") (zd (zC (zd (zC (zd (As "of") (zd (As "p") zo))) zo)) zo)))))) (zw (zY (mB (ze ye (ze zV (zc 0) (Ar 7)) (Ar 3)))
  (zH 2 (zC (zd (As "let") (zd (As "z") (zd (As "add") (zd (zC (zd (zC (zd (As "of") (zd (As "p") zo))) (zd (zC (zd (As "is") (zd (Ar 1) zo))) zo))) zo))))))
  yd) (zw (zH 3 (yU (zd (zC (zd (As "of") (zd (As "z") zo))) (zd (zC (zd (As "of") (zd (As "q") zo))) zo)))) (zw (zY (mB (ze ye (ze zV (ze yO (zc 0) (Ar 7)) (Ar 5)) (Ar 2)))
  (mP (zc 3) (Ar 1) (zC (zd (As "is") (zd (ze zV (ze yO (zc 0) (Ar 35)) (Ar 9)) zo))))
  yd) (zw (zY (mB (ze ye (ze zV (ze yO (zc 0) (Ar 35)) (Ar 3)) (Ar 1)))
  (zH 3 (qu (zc 3) (cP (jZ qc (Ar 1)))))
  yd) (yb (zC (zd (As "if") (zd (zC (zd (As "of") (zd (As "p") zo))) (zd (zC (zd (zC (zd (zc 2) zo)) (zd (zC (zd (As "go") (zd (zc 1) (zd (zu jx (zd (zc 3) zo)) zo)))) zo))) (zd (zC (zd (zC zo) (zd (zC (zd (As "give") (zd (zC (zd (As "of") (zd (As "q") zo))) zo))) zo))) zo))))))))))
noncomputable def tJ:Al:=yq 2 4 (Rh)
def zr1 (T:Txt w K mg):bf P w K mg base "_law_turn" 1 tJ:=T.f__law_turn.ok (k:=0) zcU λ_ _ _ _ _ _ _ hr=>by
 exact "t j2 B l D l D l D l B l B l D l D o o o czcU.nd t m W K G n n y j2 B l D l D l D l B l B l D l D o l B l D l n o o o czcU.nd J t j3 Y l B l D l D o l B l D l D o o czcU.nd t m W K fjw G n n n y LziW 2 n B l D l K fjw G n n o J t m W K fjw G n n n y j3 azqu 2 dzdu"
 refine Nk Nu ?_
 exact "n czcU.nd J y E B l D l B l D l D o l B l B l S o l B l D l M l q l 2 o o o l B l B o l B l D l B l D l D o o o o"
theorem Aq:au ["_law_script", "_law_cell", "_law_many", "_law_seed", "_law_program_here", "_law_k", "_law_here", "_law_aim", "_law_name_here"] ["_law_script"] (zW FV):=by exact "7"
noncomputable def Rj:Aj :=
  zw (zH 1 (ze zV (zu jr (zd (zc 0) (zd (Ar 6) zo))) (ze wZ (Ar 10) (Ar 9)))) (zw (zH 2 (ze ya (Ar 1) (ze zV (zc 1) (Ar 12)))) (zw (zY (mB (ze ye (ze zV (ze yO (zc 1) (Ar 12)) (Ar 8)) (Ar 1)))
  (zH 2 (ze ya (Ar 1) (ze zV (ze yO (zc 1) (Ar 96)) (Ar 200))))
  yd) (zw (zH 3 (ze ya (ze jq (Ar 4) (ze zV (ze yO (zc 1) (Ar 17)) (Ar 900000))) (Ar 2))) (zw (zH 4 (yU zo)) (zw (yV (bP (zd (zc 2) zo)) (gN 5)
  (zw (zH 6 (zu jr (zd (zc 0) (zd (ze ya (Ar 7) (ze zV (zc 5) (Ar 50))) zo))))
  (zw (zH 7 (ze ya (zc 5) (Ar 1)))
  (zw (zY (mB (ze wF (zc 5) (ze jC (zc 2) (Ar 1))))
  (zH 7 (ze zV (zc 6) (zc 2)))
  yd)
  (zw (zH 8 (zu wy (zd (zc 3) (zd (zc 5) zo))))
  (zY (mB (ze iE (zc 2) (Ar 40)))
  (yK (yF yJ (zc 4) (zC (zd (zc 8) (zd (zC zo) (zd (zC (zd (zC zo) (zd (zC (zd (As "go") (zd (zu wy (zd (zc 3) (zd (zc 7) zo))) (zd (zC zo) zo)))) zo))) zo))))))
  (yK (yF yJ (zc 4) (zC (zd (zc 8) (zd (zC (zd (As "p") (zd (As "q") zo))) (zd (zC (zd (zC zo) (zd (zu tJ (zd (zc 6) (zd (zu wy (zd (zc 3) (zd (zc 7) zo))) zo))) zo))) zo)))))))))))) (yb (zu jx (zd (zc 4) zo))))))))
noncomputable def AG:Al:=yq 1 9 (Rj)
def zr3 (T:Txt w K mg):bf P w K mg base "_law_ring" 2 AG:=T.f__law_ring.ok (k:=1) Aq λ_ _ _ _ _ _ _ hr=>by
 exact "t j1 K ewI l G l n o fza8 n n Z t j2 O n K M n Z t m W K fjw M n n n y j2 O n K fjw M n n Z J t j3 O fwj n K fjw M n n n Z t j4 Y o Z t p C l S o"
 exact (wf 5 Aq.nd)
 exact "t j6 ewI l G l O n K b5 n o Z t j7 O b5 n Z t m kzfb b5 fwL S n y j7 K b6 S Z J t j8 ezcc l 2 l b5 o Z y m Fzdq S n y djJ ajT b4 B l b8 l B o l B l B o l B l D l ezcc l 2 l b7 o l B o o o o y djJ ajT b4 B l b8 l B l D l D o l B l B o l ezr1 l b6 l ezcc l 2 l b7 o o o o y E q l b4 o"
theorem Av:au ["_law_script", "_law_cell", "_law_names", "_law_block_here", "_law_k", "_law_here", "_law_step_here", "_law_other", "_law_test"] ["_law_script"] (zW FW):=by exact "7"
noncomputable def Rk:Aj :=
  zw (zH 1 (ze zV (zu jr (zd (zc 0) (zd (Ar 6) zo))) (ze wZ (Ar 10) (Ar 9)))) (zw (zH 2 (yU (sR ["p", "q", "s1", "s2", "s3", "s4", "s5", "s6", "s7", "s8"]))) (zw (zH 3 (zC (zd (zC zo) (zd (zC (zd (As "go") (zd (As "deep") (zd (zu ky (zd (zc 1) (zd (Ar 2) (zd (zc 2) zo)))) zo)))) zo)))) (zw (yV (bP (zd (Ar 8) zo)) (gN 4)
  (zw (zH 5 (zu jr (zd (zc 0) (zd (ze ya (Ar 7) (zc 4)) zo))))
  (zw (zH 6 (zu lD (zd (zc 5) (zd (ze zv (zc 2) (ze jC (Ar 9) (zc 4))) (zd (lg (zc 2) d7 (cP (ze jC (Ar 9) (zc 4)))) (zd (yU (zd (zC (zd (As "deep") (zd (Ar 2) zo))) zo)) zo))))))
  (zw (zH 7 (zC (zd (zC zo) (zd (zC (zd (As "go") (zd (As "deep") (zd (zu ky (zd (ze yO (zc 5) (Ar 7)) (zd (Ar 2) (zd (lg (zc 2) d7 (cP (ze jC (Ar 10) (zc 4)))) zo)))) zo)))) zo))))
  (zw (zH 8 (zC (zd (As "of") (zd (ze zv (zc 2) (zu jG (zd (zc 5) (zd (Ar 15) (zd (ze jC (Ar 10) (zc 4)) zo))))) zo))))
  (zY (mB (ze ye (ze zV (zc 5) (Ar 2)) (Ar 0)))
  (zH 3 (zC (zd (zC (zd (zc 6) zo)) (zd (zC (zd (As "if") (zd (zc 8) (zd (zc 3) (zd (zc 7) zo))))) zo))))
  (zH 3 (zC (zd (zC (zd (zc 6) zo)) (zd (zC (zd (As "if") (zd (zc 8) (zd (zc 7) (zd (zc 3) zo))))) zo)))))))))) (yb (zC (zd (zC (zd (As "deep") (zd (zC (zd (As "p") (zd (As "q") zo))) (zd (zc 3) zo)))) zo))))))
noncomputable def AH:Al:=yq 1 9 (Rk)
theorem zr5 (T:Txt w K mg):bf P w K mg base "_law_deep" 6 AH:=T.f__law_deep.ok (k:=5) Av λ_ _ _ _ _ _ _ hr=>by
 exact "t j1 K ewI l G l n o fza8 n n 0 t j2 Y dze9"
 decide +kernel
 exact "0 t j3 B l B o l B l D l D l ezcb l M l n l S o o o 0 t p C l n o"
 exact (wf 4 Av.nd)
 exact "t j5 ewI l G l O n b4 o 0 t j6 ezfL l b5 l g i S fwL n b4 h l LzeP S czeO dzdu fwL n b4 l Y l B l D l n o o o 0 t j7 B l B o l B l D l D l ezcb l fjw b5 n l n l LzeP S czeO dzdu fwL n b4 o o o 0 t j8 B l D l g i S ewR l b5 l n l fwL n b4 o h o 0 y m W K b5 n n y j3 B l B l b6 o l B l D l b8 l 2 l b7 o o 0 y j3 B l B l b6 o l B l D l b8 l b7 l 2 o o 0 y E B l B l D l B l D l D o l 2 o o"
theorem zjN:au ["_law_cell", "_law_way", "_law_scope", "_law_heads", "_law_head"] ["_law_cell", "_law_way", "_law_scope", "_law_heads"] (zW FX):=by exact "7"
noncomputable def Rl:Aj :=
  zw (zY (mB (ze ye (zc 1) (Ar 3)))
  (yb (zC (zd (As "give") (zd (zu oJ (zd (zc 0) (zd (Ar 13) (zd (zc 2) zo)))) zo))))
  yd) (zw (zY (mB (ze ye (zc 1) (Ar 4)))
  (yb (zC (zd (As "fail") (zd (zu g8 (zd (ze zV (zc 0) (ze wZ (Ar 10) (Ar 9))) zo)) zo))))
  yd) (zw (zH 4 (ze zv (zc 3) (zu jG (zd (zc 0) (zd (Ar 14) (zd (zu yS (zd (zc 3) zo)) zo)))))) (yb (zC (zd (As "go") (zd (ze zv (zc 4) (Ar 0)) (zd (zu ky (zd (zc 0) (zd (ze zv (zc 4) (Ar 1)) (zd (zc 2) zo)))) zo)))))))
noncomputable def AI:Al:=yq 4 5 (Rl)
def zr7 (T:Txt w K mg):bf P w K mg base "_law_end" 5 AI:=T.f__law_end.ok (k:=4) zjN λ_ _ _ _ _ _ _ hr=>by
 exact "t m W M n y E B l D l ezfI l G l n l S o o J t m W M n y E B l D l ezb9 l K G fza8 n n o o J t j4 g i 2 ewR l G l n l r l 2 o o h czjN.nd y E B l D l g i b4 n h l ezcb l G l g i b4 n h l S o o"
theorem tI:au ["_law_script", "_law_f", "_law_b", "_law_scope", "_law_heads", "_law_seed", "_law_at_here", "_law_cell", "_law_steps", "_law_j", "_law_name_here", "_law_way", "_law_one", "_law_other"] ["_law_script", "_law_f", "_law_b", "_law_scope", "_law_heads", "_law_seed"] (zW FY):=by exact "7"
noncomputable def Gy (mr:Al):Aj :=
  zw (zY (ki (mB (ze iE (zc 11) (Ar 4))) (mB (ze oLt (zc 2) (Ar 4))))
  (zw (zH 12 (zu mr (zd (zc 0) (zd (zc 1) (zd (ze jq (Ar 2) (zc 2)) (zd (zc 3) (zd (zc 4) (zd (zc 5) zo))))))))
  (zw (zH 13 (zu mr (zd (zc 0) (zd (zc 1) (zd (ze ya (ze jq (Ar 2) (zc 2)) (Ar 1)) (zd (zc 3) (zd (zc 4) (zd (zc 5) zo))))))))
  (yb (zC (zd (zu jx (zd (zc 8) zo)) (zd (zC (zd (As "if") (zd (zu oJ (zd (zc 7) (zd (Ar 13) (zd (zc 3) zo)))) (zd (zc 12) (zd (zc 13) zo))))) zo))))))
  yd) (yb (zC (zd (zu jx (zd (zc 8) zo)) (zd (zu AI (zd (zc 7) (zd (zc 11) (zd (zc 3) (zd (zc 4) zo))))) zo))))
noncomputable def Gz (mr:Al):Aj :=
  zw (zH 6 (ze ya (ze ya (Ar 6) (ze jq (ze jC (zc 2) (Ar 1)) (Ar 9))) (ze jq (zc 1) (Ar 3)))) (zw (zH 7 (zu jr (zd (zc 0) (zd (ze ya (zc 6) (Ar 2)) zo)))) (zw (zH 3 (zu gQ (zd (zc 3) zo))) (zw (zH 8 (yU zo)) (zw (yV (bP (zd (zu jG (zd (zc 7) (zd (Ar 11) (zd (Ar 3) zo)))) zo)) (gN 9)
  (zw (zH 10 (zu wy (zd (zc 5) (zd (ze ya (ze ya (Ar 4) (ze jq (Ar 2) (zc 2))) (zc 9)) zo))))
  (zw (yK (yF yJ (zc 8) (zu lD (zd (zu jr (zd (zc 0) (zd (ze ya (zc 6) (zc 9)) zo))) (zd (zc 10) (zd (zc 3) (zd (zc 4) zo)))))))
  (yK (yF yJ (zc 3) (zc 10)))))) (zw (zH 11 (zu jG (zd (zc 7) (zd (Ar 12) (zd (Ar 7) zo))))) (Gy mr))))))
noncomputable def AJ (mr:Al):Al:=yq 6 14 (Gz mr)
theorem Rm (T:Txt w K mg) {k:Nat} (hk:5<=k) {mr:Al} (Gm:bf P w K mg base "_law_block" k mr):bf P w K mg base "_law_block" (k+1) (AJ mr):=T.f__law_block.ok (k:=k+0) tI λ_ _ _ _ _ _ _ hr=>by
 exact "t j6 O O n fwj fwL S n n fwj M n 3 t j7 xwI l G l O b6 n o 3 t j3 5 l 2 o 3 t j8 Y o 3 t p C l xwR l b7 l n l n o o"
 exact (wf 9 tI.nd)
 exact "t j10 xzcc l b5 l O O n fwj n S b9 o 3 t djJ ajT b8 xzfL l xwI l G l O b6 b9 o l b10 l 2 l b4 o y djJ ajT 2 b10 t j11 xwR l b7 l n l n o 3 t m dza7 azhM Fzdq b11 n dzhL Fzcz S n t j12 H l G l M l fwj n S l 2 l b4 l b5 o 3 t j13 H l G l M l O fwj n S n l 2 l b4 l b5 o 3 y E B l q l b8 o l B l D l xzfI l b7 l n l 2 o l b12 l b13 o o J y E B l q l b8 o l xzr7 l b7 l b11 l 2 l b4 o o"
noncomputable def kC:Nat->Al
 | 0=>yq 6 14 xn
 | n+1=>AJ (kC n)
theorem GA (T:Txt w K mg):∀n,bf P w K mg base "_law_block" (5+1+1*n) (kC n)
 | 0=>T.f__law_block.ok (k:=5) tI λf aU A outer s H E hr=>EM
 | n+1=>(Rm T (by omega) (GA T n)).mono (by omega)
theorem zbh:au ["_law_script", "_law_cell", "_law_seed", "_law_heads", "_law_program_here", "_law_f", "_law_head", "_law_own", "_law_params"] ["_law_script"] (zW zdR):=by exact "7"
noncomputable def Ro:Aj :=
  zw (zH 1 (ze zV (zu jr (zd (zc 0) (zd (Ar 0) zo))) (ze wZ (Ar 10) (Ar 9)))) (zw (zH 2 (ze zV (zu jr (zd (zc 0) (zd (Ar 1) zo))) (ze wZ (Ar 10) (Ar 9)))) (zw (zH 3 (jd (bP (zd (ze ya (Ar 1) (ze zV (zc 1) (Ar 3))) zo)) (zC (zd (zu wy (zd (ze yO (zc 2) (Ar 12)) (zd (zc 0) zo))) (zd (ze zV (zu jr (zd (zc 1) (zd (ze ya (Ar 2) (zc 0)) zo))) (Ar 4)) zo))))) (zw (zY (mB (ze ye (ze zV (ze yO (zc 1) (Ar 3)) (Ar 4)) (Ar 1)))
  (mP (zc 3) (Ar 0) (zC (zd (ze zv (ze zv (zc 3) (Ar 0)) (Ar 0)) (zd (ze zV (zu jr (zd (zc 0) (zd (Ar 2) zo))) (Ar 7)) zo))))
  yd) (zw (zH 4 (yU zo)) (zw (oA (zd (zc 3) zo) (g2 5 6)
  (zw (zH 7 (ze ya (zc 2) (ze jq (ze jq (Ar 4) (zc 5)) (ze zV (ze yO (zc 1) (Ar 12)) (Ar 2)))))
  (zw (zH 8 (jd (bP (zd (ze zv (zc 6) (Ar 1)) zo)) (zu wy (zd (zc 8) (zd (zc 0) zo)))))
  (yK (yF yJ (zc 4) (zC (zd (ze zv (zc 6) (Ar 0)) (zd (zu jx (zd (zc 8) zo)) (zd (zu (kC 6) (zd (zc 0) (zd (zc 5) (zd (Ar 1) (zd (zc 8) (zd (zc 3) (zd (zc 7) zo))))))) zo))))))))) (yb (zu jx (zd (zc 4) zo))))))))
noncomputable def AK:Al:=yq 1 9 (Ro)
theorem zsa (T:Txt w K mg):bf P w K mg base "_law_small" 13 AK:=T.f__law_small.ok (k:=12) zbh λ_ _ _ _ _ _ _ hr=>by
 exact "t j1 K ewI l G l n o fza8 n n czbh.nd t j2 K ewI l G l n o fza8 n n czbh.nd t"
 refine Fe 3 (M:=["_law_script", "_law_cell", "_law_seed", "_law_heads", "_law_program_here", "~_law_f", "_law_head", "_law_own", "_law_params"]) rfl (by exact "8zdR") (by exact ⟨rfl,by show ∀p∈List.zip (["_law_script", "_law_cell", "_law_seed", "_law_heads", "_law_program_here", "~_law_f", "_law_head", "_law_own", "_law_params"]:Ad) (["_law_script", "_law_cell", "_law_seed", "_law_heads", "_law_program_here", "_law_f", "_law_head", "_law_own", "_law_params"]:Ad),p.1=p.2\/p.1∉(_:Ad);decide +kernel⟩) (by decide +kernel) ?_ ?_ zbh.nd rfl (by exact "#") (by exact "$") (by rfl)
 exact "C l O n K M n o v B l szcc l fjw S n l G o l K swI l M l O n G o n o t m W K fjw M n n n y LziW 2 n B l g i g i 2 n h n h l K ewI l G l n o n o J t j4 Y o czbh.nd t U l 2 o"
 exact (qg 5 6 rfl zbh.nd)
 exact "t j7 O S fwj fwj n b5 K fjw M n n czbh.nd t"
 refine xO 8 (N:=["_law_script", "_law_cell", "_law_seed", "_law_heads", "_law_program_here", "_law_f", "_law_head", "_law_own", "_law_params"]) rfl (by exact "8zdR") rfl (by decide +kernel) ?_ ?_ zbh.nd rfl (by exact "#") (by exact "$") (by rfl)
 exact "C l g i b6 n h o v szcc l b8 l G o y djJ ajT b4 B l g i b6 n h l q l b8 o l"
 refine zO (GA T 6) (hr.mono (by decide)) zQ ?_
 exact "l G l b5 l n l b8 l 2 l b7 o o y E q l b4 o"
theorem zjR:au ["_law_script", "_law_way"] ["_law_script"] (zW F3):=by exact "7"
noncomputable def GB:Aj :=
  zw (zY (mB (ze ye (zc 1) (Ar 6)))
  (yb (zu AD (zd (zc 0) zo)))
  yd) (zw (zY (mB (ze ye (zc 1) (Ar 7)))
  (yb (zu AG (zd (zc 0) zo)))
  yd) (zw (zY (mB (ze ye (zc 1) (Ar 5)))
  (yb (zu AH (zd (zc 0) zo)))
  yd) (yb (zu AK (zd (zc 0) zo)))))
noncomputable def GC:Aj :=
  zw (zH 1 (ze zV (zu jr (zd (zc 0) (zd (Ar 5) zo))) (Ar 8))) (GB)
noncomputable def AL:Al:=yq 1 2 (GC)
def zsb (T:Txt w K mg):bf P w K mg base "_law_program" 14 AL:=T.f__law_program.ok (k:=13) zjR λ_ _ _ _ _ _ _ hr=>by
 exact "t j1 K ewI l G l n o n czjR.nd t m W M n y E ezrZ l G o J t m W M n y E ezr3 l G o J t m W M n y E ezr5 l G o J y E ezsa l G o"
theorem zcV:au ["_law_block_here", "_law_lines_here", "_law_todo", "_law_steps", "_law_end_here"] ["_law_block_here"] (zW F5):=by exact "7"
noncomputable def Rp:Aj :=
  zw (zH 1 (yU zo)) (zw (zH 2 (yU (zd (zc 0) zo))) (zw (xl (mB (ze iE (zu yS (zd (zc 2) zo)) (Ar 0)))
  (zw (qh (g2 3 4) (yF tq (zc 2) (Ar 0)))
  (zw (yK (yF tD (zc 1) (zc 3)))
  (zw (yK (yF yJ (zc 1) (zc 4)))
  (zY (mB (ze ye (ze zv (zc 4) (Ar 0)) (As "if")))
  (zH 2 (ze ya (yU (zd (ze zv (zc 4) (Ar 2)) (zd (ze zv (zc 4) (Ar 3)) zo))) (zc 2)))
  yd))))) (yb (zc 1))))
noncomputable def kD:Al:=yq 1 5 (Rp)
def zfV (T:Txt w K mg):bf P w K mg base "_law_lines" 1 kD:=T.f__law_lines.ok (k:=0) zcV λ_ _ _ _ _ _ _ hr=>by
 exact "t j1 Y o czcV.nd t j2 Y l G o czcV.nd t"
 refine D4 (jA rfl rfl) ?_ ?_
 exact "Fzdq r l S o n t azpp"
 exact (qg 3 4 rfl zcV.nd)
 exact "azrj S n t djJ azrn M 2 t djJ ajT M b4 y m W g i b4 n h D y j2 O Y l g i b4 n h l g i b4 n h o S czcV.nd J y E M"
theorem zbi:au ["_law_cell", "_law_program_here", "_law_held_here", "_law_many", "_law_k", "_law_function", "_law_names"] ["_law_cell", "_law_program_here"] (zW zfs):=by exact "7"
noncomputable def Rq:Aj :=
  zw (zH 2 (yU zo)) (zw (zH 3 (zu jG (zd (zc 0) (zd (Ar 30) (zd (Ar 4) zo))))) (zw (zY (mB (ze ye (zu jG (zd (zc 0) (zd (Ar 29) (zd (Ar 8) zo)))) (Ar 1)))
  (zH 3 (zu jG (zd (zc 0) (zd (Ar 28) (zd (Ar 30) zo)))))
  yd) (zw (yV (bP (zd (zc 3) zo)) (gN 4)
  (zw (zH 5 (ze zv (zc 1) (zu jG (zd (zc 0) (zd (ze ya (Ar 31) (zc 4)) (zd (zu yS (zd (zc 1) zo)) zo))))))
  (zw (zH 6 (ze ya (zu gQ (zd (ze zv (zc 5) (Ar 1)) zo)) (yU (zd (As "nothing") zo))))
  (zw (zH 6 (ze ya (zc 6) (lC (yG (zu kD (zd (ze zv (zc 5) (Ar 2)) zo))) (jI (mB (ze ye (ze zv (zc 0) (Ar 0)) (As "let"))) (mB (ze ye (ze zv (zc 0) (Ar 0)) (As "call")))) (ze zv (zc 0) (Ar 1)))))
  (yK (yF yJ (zc 2) (zC (zd (ze zv (zc 5) (Ar 0)) (zd (ze zv (zc 6) (zu jG (zd (zc 0) (zd (ze ya (Ar 35) (zc 4)) (zd (zu yS (zd (zc 6) zo)) zo))))) zo))))))))) (yb (zu jx (zd (zc 2) zo))))))
noncomputable def AO:Al:=yq 2 7 (Rq)
theorem zse (T:Txt w K mg):bf P w K mg base "_law_held" 2 AO:=T.f__law_held.ok (k:=1) zbi λ_ _ _ _ _ _ _ hr=>by
 exact "t j2 Y o czbi.nd t j3 ewR l G l n l n o czbi.nd t m W ewR l G l n l n o n y j3 ewR l G l n l n o czbi.nd J t p C l 2 o"
 exact (wf 4 zbi.nd)
 exact "t j5 g i M ewR l G l O n b4 l r l M o o h czbi.nd t j6 O 5 l g i b5 n h o Y l D o czbi.nd t j6 O b6"
 refine Fm (N:=["_law_cell", "_law_program_here", "_law_held_here", "_law_many", "_law_k", "_law_function", "_law_names"]) rfl (by exact "9zfs") rfl (by decide +kernel) ?_ ?_ ?_
 exact "djF ezfV l g i b5 n h o v dza7 azbY W g i G n h D dzbX W g i G n h D v g i G n h czbi.nd y djJ ajT S B l g i b5 n h l g i b6 ewR l G l O n b4 l r l b6 o o h o y E q l S o"
theorem zfX:au ["program", "functions", "function"] ["program"] (zW F6):=by exact "7"
noncomputable def Rr:Aj :=
  zw (zH 1 qm) (zw (yV (yG (zc 0)) (gN 2)
  (iH (zc 1) (ze zv (zc 2) (Ar 0)) (zc 2))) (yb (zc 1)))
noncomputable def AQ:Al:=yq 1 3 (Rr)
def zsg (T:Txt w K mg):bf P w K mg base "functions_by_name" 1 AQ:=T.f_functions_by_name.ok (k:=0) zfX λ_ _ _ _ _ _ _ hr=>by
 exact "t j1 cze0 czfX.nd t p djF G TzfX.nd y Nze1 R M g i S n h S"
 rfl
 exact "y E M"
theorem zfZ:au ["names", "marks", "name"] ["names"] (zW F8):=by exact "7"
noncomputable def Rt:Aj :=
  zw (zH 1 qm) (zw (yV (yG (zc 0)) (gN 2)
  (mV (zc 1) (zc 2) (mC (.bl true)))) (yb (zc 1)))
noncomputable def lE:Al:=yq 1 3 (Rt)
def zf0 (T:Txt w K mg):bf P w K mg base "marked" 1 lE:=T.f_marked.ok (k:=0) zfZ λ_ _ _ _ _ _ _ hr=>by
 exact "t j1 cze0 czfZ.nd t p djF G TzfZ.nd y Nzi8 R M S cwJ"
 rfl
 exact "y E M"
theorem zdZ:au ["truths", "bits", "place", "truth"] ["truths"] (zW F9):=by exact "7"
noncomputable def GD:Aj :=
  (yb (zc 1))
noncomputable def GG:Aj :=
  zw (oA (zd (zc 0) zo) (g2 2 3)
  (zY (mB (zc 3))
  (zH 1 (ze qp (zc 1) (ze kn (Ar 1) (zc 2))))
  yd)) (GD)
noncomputable def GH:Aj :=
  zw (zH 1 (Ar 0)) (GG)
noncomputable def qN:Al:=yq 1 4 (GH)
def zjX (T:Txt w K mg):bf P w K mg base "bits_of" 1 qN:=T.f_bits_of.ok (k:=0) zdZ λ_ _ _ _ _ _ _ hr=>by
 exact "t j1 n czdZ.nd t U l G o"
 exact (qg 2 3 rfl zdZ.nd)
 exact "y m dwC 2 y j1 fzii M fzdB n S czdZ.nd J y E M"
theorem Ru:au ["function", "held"] ["function", "held"] (zW zft):=by exact "7"
noncomputable def Rv:Aj :=
  (yb (zu qN (zd (jd (yG (ze (a6 zv) (zc 0) (Ar 1))) (ze (cH (yH false) false) (zC (zd (ze (a6 zv) (zc 1) (Ar 0)) (zd (zc 0) zo))) (zc 2))) zo)))
noncomputable def qO:Al:=yq 2 2 (Rv)
theorem zsk (T:Txt w K mg):bf P w K mg base "held_bits" 2 qO:=T.f_held_bits.ok (k:=1) Ru λ_ _ _ _ _ _ _ hr=>by
 exact "y E ezjX l"
 refine oz (N:=["function", "held"]) rfl (by exact "8zft") rfl (by decide +kernel) ?_ ?_
 exact "djF g u G n h v X B l g u M n h l G o S o"
theorem GI:au ["self", "program", "held", "function"] ["self", "program", "held"] (zW zfu):=by exact "7"
noncomputable def Rw:Aj :=
  zw (sFld "pairs" insOf (zc 0) (zu lE (zd (zc 2) zo))) (zw (sFld "bits_by_name" insOf (zc 0) qm) (yV (yG (zc 1)) (gN 3)
  (iH (jZ (cQ "bits_by_name" insOf excOf) (zc 0)) (ze zv (zc 3) (Ar 0)) (zu qO (zd (zc 3) (zd (jZ (cQ "pairs" insOf excOf) (zc 0)) zo))))))
noncomputable def tK:Al:=yq 3 4 (Rw)
def Rx (T:Txt w K mg):xi P w K mg base "Holding" 3 tK:=T.n_Holding.ok (k:=2) GI λ_ _ _ _ _ _ _ hr=>by
 exact "t"
 refine D0 T.d_pairs ?_ ?_
 exact "G ezf0 l S o t"
 refine D0 T.d_bits_by_name ?_ ?_
 exact "G cze0 y p djF M"
 exact (wf 3 GI.nd)
 exact "y Nze1 R 1T.d_bits_by_name G g i 2 n h ezsk l 2 l 1T.d_pairs G o"
 rfl
theorem Ry:au ["bits", "place"] ["bits", "place"] (zW F_):=by exact "7"
noncomputable def Rz:Aj :=
  (yb (ze ye (ze xw (ze xx (zc 0) (zc 1)) (Ar 1)) (Ar 1)))
noncomputable def tN:Al:=yq 2 2 (Rz)
def zsp (T:Txt w K mg):bf P w K mg base "is_later_at" 1 tN:=T.f_is_later_at.ok (k:=0) Ry λ_ _ _ _ _ _ _ hr=>by
 exact "y E AyP fzqi fzqj G M n n"
theorem RA:au ["function", "bits"] ["function", "bits"] (zW zfv):=by exact "7"
noncomputable def RB:Aj :=
  (yb (zu jx (zd (qL (zd (ze zv (zc 0) (Ar 1)) zo) (mB (zu tN (zd (zc 3) (zd (zc 0) zo)))) (zc 1)) zo)))
noncomputable def tO:Al:=yq 2 2 (RB)
theorem zss (T:Txt w K mg):bf P w K mg base "later_params" 2 tO:=T.f_later_params.ok (k:=1) RA λ_ _ _ _ _ _ _ hr=>by
 exact "y E q l"
 refine FG (N:=["function", "bits"]) rfl (by exact "9zfv") rfl (by decide +kernel) T.b_enumerate ?_ ?_ ?_
 exact "l g i G n h o v dwC szsp l 2 l G o v M o"
theorem zd3:au ["block", "end", "lines"] ["block"] (zW Ga):=by exact "7"
noncomputable def RC (mr:Al):Aj :=
  zw (zH 1 (ze zv (zc 0) (Ar 1))) (zw (zH 2 (ze ya (ze zv (zc 0) (Ar 0)) (zC (zd (zc 1) zo)))) (zw (zY (mB (ze ye (ze zv (zc 1) (Ar 0)) (As "if")))
  (yb (ze ya (ze ya (zc 2) (zu mr (zd (ze zv (zc 1) (Ar 2)) zo))) (zu mr (zd (ze zv (zc 1) (Ar 3)) zo))))
  yd) (yb (zc 2))))
noncomputable def AR (mr:Al):Al:=yq 1 3 (RC mr)
def RD (T:Txt w K mg) {k:Nat} (hk:1<=k) {mr:Al} (Gm:bf P w K mg base "lines_of" k mr):bf P w K mg base "lines_of" (k+1) (AR mr):=T.f_lines_of.ok (k:=k+0) zd3 λ_ _ _ _ _ _ _ hr=>by
 exact "t j1 g i G n h czd3.nd t j2 O g i G n h B l M o czd3.nd t m W g i M n h D y E O O S H l g i M n h o H l g i M n h o J y E S"
noncomputable def lF:Nat->Al
 | 0=>yq 1 3 xn
 | n+1=>AR (lF n)
theorem Gn (T:Txt w K mg):∀n,bf P w K mg base "lines_of" (1+1+1*n) (lF n)
 | 0=>T.f_lines_of.ok (k:=1) zd3 λf aU A outer s H E hr=>EM
 | n+1=>(RD T (by omega) (Gn T n)).mono (by omega)
theorem RE:au ["line"] ["line"] (zW Gb):=by exact "7"
noncomputable def RF:Aj :=
  zw (zY (mB (ze ye (ze zv (zc 0) (Ar 0)) (As "call")))
  (yb (zC (zd (ze zv (zc 0) (Ar 2)) (zd (ze zv (zc 0) (Ar 3)) zo))))
  yd) (zw (zY (mB (ze ye (ze zv (zc 0) (Ar 0)) (As "go")))
  (yb (zC (zd (ze zv (zc 0) (Ar 1)) (zd (ze zv (zc 0) (Ar 2)) zo))))
  yd) (yb (mC .non)))
noncomputable def w8:Al:=yq 1 1 (RF)
def zjZ (T:Txt w K mg):bf P w K mg base "aim_of" 1 w8:=T.f_aim_of.ok (k:=0) RE λ_ _ _ _ _ _ _ hr=>by
 exact "t m W g i G n h D y E B l g i G n h l g i G n h o J t m W g i G n h D y E B l g i G n h l g i G n h o J y E czdo"
theorem RG:au ["atoms", "later"] ["atoms", "later"] (zW zfw):=by exact "7"
noncomputable def RH:Aj :=
  (yb (zu qN (zd (jd (yG (zc 0)) (wY (ze ye (ze zv (zc 0) (Ar 0)) (As "of")) (ze (yH false) (ze zv (zc 0) (Ar 1)) (zc 2)))) zo)))
noncomputable def qP:Al:=yq 2 2 (RH)
theorem zj0 (T:Txt w K mg):bf P w K mg base "need" 2 qP:=T.f_need.ok (k:=1) RG λ_ _ _ _ _ _ _ hr=>by
 exact "y E ezjX l"
 refine oz (N:=["atoms", "later"]) rfl (by exact "8zfw") rfl (by decide +kernel) ?_ ?_
 exact "djF G v azb0 AyP g i G n h D dzbZ Azby g i G n h S o"
theorem RI:au ["self", "aim", "later"] ["self", "aim", "later"] (zW zfx):=by exact "7"
noncomputable def RJ:Aj :=
  (yb (ze qp (zu qP (zd (ze zv (zc 1) (Ar 1)) (zd (zc 2) zo))) (ze zv (jZ (cQ "bits_by_name" insOf excOf) (zc 0)) (ze zv (zc 1) (Ar 0)))))
noncomputable def m_Holding_goal_of:Al:=yq 3 3 (RJ)
def RK (T:Txt w K mg):gL P w K mg base "Holding" "goal_of" 3 m_Holding_goal_of:=T.m_Holding_goal_of.ok (k:=2) RI λ_ _ _ _ _ _ _ hr=>by
 exact "y E fzii ezj0 l g i M n h l S o g i 1T.d_bits_by_name G g i M n h h"
noncomputable def qQ (c:Str):Option (Al):=if c = "Holding" then some m_Holding_goal_of else none
def zsC (T:Txt w K mg) {c:Str} {m:Al} (h:qQ c=some m):gL P w K mg base c "goal_of" 3 m:=by
 unfold qQ at h
 by_cases e0:c = "Holding"
 ·rw [zF e0] at h;cases h;rw [e0];exact (RK T).mono (by decide)
 rw [zP e0] at h
 cases h
theorem RL:au ["line"] ["line"] (zW Ge):=by exact "7"
noncomputable def RM:Aj :=
  (yb (ze (yH false) (ze zv (zc 0) (Ar 0)) (zC (zd (As "let") (zd (As "call") zo)))))
noncomputable def lG:Al:=yq 1 1 (RM)
def zj1 (T:Txt w K mg):bf P w K mg base "is_step" 1 lG:=T.f_is_step.ok (k:=0) RL λ_ _ _ _ _ _ _ hr=>by
 exact "y E Azby g i G n h B l D l D o"
theorem RN:au ["line"] ["line"] (zW Gf):=by exact "7"
noncomputable def RO:Aj :=
  zw (zY (mB (zu lG (zd (zc 0) zo)))
  (yb (ze zv (zc 0) (Ar 3)))
  yd) (zw (zY (mB (ze ye (ze zv (zc 0) (Ar 0)) (As "go")))
  (yb (ze zv (zc 0) (Ar 2)))
  yd) (zw (zY (mB (ze ye (ze zv (zc 0) (Ar 0)) (As "fail")))
  (yb (zC zo))
  yd) (yb (zC (zd (ze zv (zc 0) (Ar 1)) zo)))))
noncomputable def tP:Al:=yq 1 1 (RO)
def zsH (T:Txt w K mg):bf P w K mg base "atoms_of" 2 tP:=T.f_atoms_of.ok (k:=1) RN λ_ _ _ _ _ _ _ hr=>by
 exact "t m dwC ezj1 l G o y E g i G n h J t m W g i G n h D y E g i G n h J t m W g i G n h D y E B o J y E B l g i G n h o"
theorem RP:au ["self", "name", "step", "later"] ["self", "name", "step", "later"] (zW zfy):=by exact "7"
noncomputable def RQ:Aj :=
  zw (zY (jI (mB (ze ye (ze (a6 zv) (zc 2) (Ar 0)) (As "call"))) (mB (ze wM (zu qP (zd (zu tP (zd (zc 2) zo)) (zd (zc 3) zo))) (Ar 0))))
  (yb (mC (.bl true)))
  yd) (yb (ze (cH (yH false) false) (zC (zd (zc 1) (zd (ze (a6 zv) (zc 2) (Ar 1)) zo))) (jZ (cQ "pairs" insOf excOf) (zc 0))))
noncomputable def m_Holding_makes_later:Al:=yq 4 4 (RQ)
def RR (T:Txt w K mg):gL P w K mg base "Holding" "makes_later" 3 m_Holding_makes_later:=T.m_Holding_makes_later.ok (k:=2) RP λ_ _ _ _ _ _ _ hr=>by
 exact "t m dza7 azbY W g u S n h D dzbX kzdt ezj0 l ezsH l S o l 2 o n y E cwJ J y E X B l M l g u S n h o 1T.d_pairs G"
noncomputable def oK (c:Str):Option (Al):=if c = "Holding" then some m_Holding_makes_later else none
def zsL (T:Txt w K mg) {c:Str} {m:Al} (h:oK c=some m):gL P w K mg base c "makes_later" 3 m:=by
 unfold oK at h
 by_cases e0:c = "Holding"
 ·rw [zF e0] at h;cases h;rw [e0];exact (RR T).mono (by decide)
 rw [zP e0] at h
 cases h
theorem zce:au ["self", "function", "bits", "later", "steps", "goals", "line", "aim"] ["self", "function", "bits"] (zW zfz):=by exact "7"
noncomputable def RS:Aj :=
  zw (zH 3 (zu lE (zd (zu tO (zd (zc 1) (zd (zc 2) zo))) zo))) (zw (zH 4 (yU zo)) (zw (zH 5 (yU zo)) (zw (yV (yG (zu (lF 12) (zd (ze zv (zc 1) (Ar 2)) zo))) (gN 6)
  (zw (zH 7 (zu w8 (zd (zc 6) zo)))
  (zw (zY (mB (ze iK (zc 7) (mC .non)))
  (yK (yF yJ (zc 5) (iG "goal_of" qQ (zc 0) (zd (zc 7) (zd (zc 3) zo)))))
  yd)
  (zY (ki (mB (zu lG (zd (zc 6) zo))) (mB (iG "makes_later" oK (zc 0) (zd (ze zv (zc 1) (Ar 0)) (zd (zc 6) (zd (zc 3) zo))))))
  (zw (yK (yF yJ (zc 4) (ze zv (zc 6) (Ar 1))))
  (iH (zc 3) (ze zv (zc 6) (Ar 1)) (mC (.bl true))))
  yd)))) (yb (zC (zd (ze zv (zc 1) (Ar 0)) (zd (zc 2) (zd (zu jx (zd (zc 4) zo)) (zd (zu jx (zd (zc 5) zo)) zo)))))))))
noncomputable def m_Holding_best_form:Al:=yq 3 8 (RS)
def RT (T:Txt w K mg):gL P w K mg base "Holding" "best_form" 15 m_Holding_best_form:=T.m_Holding_best_form.ok (k:=14) zce λ_ _ _ _ _ _ _ hr=>by
 exact "t j3 ezf0 l ezss l M l S o o czce.nd t j4 Y o czce.nd t j5 Y o czce.nd t p djF V l g i M n h o"
 exact (wf 6 zce.nd)
 exact "t j7 ezjZ l b6 o czce.nd t m FziA b7 czdo y djJ ajT b5 IzsC G l b7 l 2 o J y m dza7 azhM dwC ezj1 l b6 o dzhL dwC IzsL G l g i M n h l b6 l 2 o t djJ ajT b4 g i b6 n h y Nze1 R 2 g i b6 n h cwJ"
 rfl
 exact "J y E B l g i M n h l S l q l b4 o l q l b5 o o"
noncomputable def qR (c:Str):Option (Al):=if c = "Holding" then some m_Holding_best_form else none
def zsO (T:Txt w K mg) {c:Str} {m:Al} (h:qR c=some m):gL P w K mg base c "best_form" 15 m:=by
 unfold qR at h
 by_cases e0:c = "Holding"
 ·rw [zF e0] at h;cases h;rw [e0];exact (RT T).mono (by decide)
 rw [zP e0] at h
 cases h
theorem GJ:au ["block", "aims"] ["block"] (zW zdS):=by exact "7"
noncomputable def RU:Aj :=
  zw (zH 1 (jd (yG (zu (lF 12) (zd (zc 0) zo))) (zu w8 (zd (zc 0) zo)))) (yb (zu jx (zd (lC (yG (zc 1)) (mB (ze iK (zc 0) (mC .non))) (zc 0)) zo)))
noncomputable def AU:Al:=yq 1 2 (RU)
theorem zsQ (T:Txt w K mg):bf P w K mg base "aims_of" 15 AU:=T.f_aims_of.ok (k:=14) GJ λ_ _ _ _ _ _ _ hr=>by
 exact "t"
 refine xO 1 (N:=["block", "aims"]) rfl (by exact "8zdS") rfl (by decide +kernel) ?_ ?_ GJ.nd rfl (by exact "#") (by exact "$") (by rfl)
 exact "djF V l G o v szjZ l G o y E q l"
 refine Fm (N:=["block", "aims"]) rfl (by exact "9zdS") rfl (by decide +kernel) ?_ ?_ ?_
 exact "djF M v FziA G czdo v G o"
theorem RV:au ["function", "goals"] ["function", "goals"] (zW zfA):=by exact "7"
noncomputable def RW:Aj :=
  (yb (xQ (D3 (zd (zu AU (zd (ze zv (zc 0) (Ar 2)) zo)) (zd (zc 1) zo))) (zC (zd (ze zv (zc 0) (Ar 0)) (zd (zc 1) zo)))))
noncomputable def qS:Al:=yq 2 2 (RW)
theorem zsT (T:Txt w K mg):bf P w K mg base "aimed_pairs" 16 qS:=T.f_aimed_pairs.ok (k:=15) RV λ_ _ _ _ _ _ _ hr=>by
 exact "y E"
 refine P9 (N:=["function", "goals"]) rfl (by exact "9zfA") rfl (by decide +kernel) ?_ ?_
 refine Of T.b_zip ?_
 exact "l ezsQ l g i G n h o l M o v B l g i G n h l M o"
theorem Aw:au ["program", "bits", "held", "functions", "holding", "met", "marks", "forms", "pair", "function", "form", "aimed"] ["program", "bits", "held"] (zW Gg):=by exact "7"
noncomputable def RX:Aj :=
  zw (zH 3 (zu AQ (zd (zc 0) zo))) (zw (zH 4 (zu (lh "Holding" tK) (zd (zc 0) (zd (zc 2) zo)))) (zw (zH 5 (yU (zd (zC (zd (ze (a6 zv) (ze (a6 zv) (zc 0) (Ar 0)) (Ar 0)) (zd (zc 1) zo))) zo))) (zw (zH 6 (zu lE (zd (zc 5) zo))) (zw (zH 7 (yU zo)) (zw (xl (mB (ze oLt (zu yS (zd (zc 7) zo)) (zu yS (zd (zc 5) zo))))
  (zw (zH 8 (ze (a6 zv) (zc 5) (zu yS (zd (zc 7) zo))))
  (zw (zH 9 (ze (a6 zv) (zc 3) (ze (a6 zv) (zc 8) (Ar 0))))
  (zw (zH 10 (iG "best_form" qR (zc 4) (zd (zc 9) (zd (ze (a6 zv) (zc 8) (Ar 1)) zo))))
  (zw (yK (yF yJ (zc 7) (zc 10)))
  (yV (yG (zu qS (zd (zc 9) (zd (ze (a6 zv) (zc 10) (Ar 3)) zo)))) (gN 11)
  (zY (mB (ze (cH (yH true) true) (zc 11) (zc 6)))
  (zw (mV (zc 6) (zc 11) (mC (.bl true)))
  (yK (yF yJ (zc 5) (zc 11))))
  yd))))))) (yb (zu jx (zd (zc 7) zo))))))))
noncomputable def oM:Al:=yq 3 12 (RX)
def zf4 (T:Txt w K mg):bf P w K mg base "best" 17 oM:=T.f_best.ok (k:=16) Aw λ_ _ _ _ _ _ _ hr=>by
 exact "t j3 ezsg l G o 4 t j4"
 refine NS (Rx T) (hr.mono (by decide)) zQ ?_
 exact "l G l S o 4 t j5 Y l B l g u g u G n h n h l M o o 4 t j6 ezf0 l b5 o 4 t j7 Y o 4 t"
 refine D4 (jA rfl rfl) ?_ ?_
 exact "Fzcz r l b7 o r l b5 o t j8 g u b5 r l b7 o h 4 t j9 g u 2 g u b8 n h h 4 t j10 IzsO b4 l b9 l g u b8 n h o 4 t djJ ajT b7 b10 y p djF ezsT l b9 l g u b10 n h o"
 exact (wf 11 Aw.nd)
 exact "y m"
 refine yv (QP (zy hr) (ze3 (zy hr))) ?_ ?_
 exact "b11 b6 t Nzi8 R b6 b11 cwJ"
 rfl
 exact "y djJ ajT b5 b11 J y E q l b7 o"
theorem RY:au ["_law_found"] ["_law_found"] (zW Gh):=by exact "7"
noncomputable def RZ:Aj :=
  (yb (wY (zu (jy isT) (zd (zc 0) (zd (mC (.ty "int")) zo))) (vW (zu (jy isT) (zd (zc 0) (zd (mC (.ty "bool")) zo))))))
noncomputable def mW:Al:=yq 1 1 (RZ)
def zj3 (T:Txt w K mg):bf P w K mg base "_law_whole" 1 mW:=T.f__law_whole.ok (k:=0) RY λ_ _ _ _ _ _ _ hr=>by
 exact "y E azb0 w l G l"
 exact (qe T.b_int D5)
 exact "o dzbZ dzoQ w l G l"
 exact (qe T.b_bool Ol)
 exact "o"
theorem R0:au ["_law_form_here"] ["_law_form_here"] (zW z_):=by exact "7"
noncomputable def R1:Aj :=
  zw (zY (jI (wx (mB (zu (jy isT) (zd (zc 0) (zd (mC (.ty "tuple")) zo))))) (mB (ze wM (zu yS (zd (zc 0) zo)) (Ar 4))))
  (yb (mC (.bl false)))
  yd) (zw (zY (jI (wx (mB (zu (jy isT) (zd (ze zv (zc 0) (Ar 0)) (zd (mC (.ty "str")) zo))))) (wx (mB (zu mW (zd (ze zv (zc 0) (Ar 1)) zo)))))
  (yb (mC (.bl false)))
  yd) (zw (zY (jI (wx (mB (zu (jy isT) (zd (ze zv (zc 0) (Ar 2)) (zd (mC (.ty "tuple")) zo))))) (wx (mB (zu (jy isT) (zd (ze zv (zc 0) (Ar 3)) (zd (mC (.ty "tuple")) zo))))))
  (yb (mC (.bl false)))
  yd) (yb (wY (zu mO (zd (jd (yG (ze zv (zc 0) (Ar 2))) (zu (jy isT) (zd (zc 0) (zd (mC (.ty "str")) zo)))) zo)) (zu mO (zd (jd (yG (ze zv (zc 0) (Ar 3))) (zu mW (zd (zc 0) zo))) zo))))))
noncomputable def qT:Al:=yq 1 1 (R1)
theorem zsZ (T:Txt w K mg):bf P w K mg base "_law_is_form" 2 qT:=T.f__law_is_form.ok (k:=1) R0 λ_ _ _ _ _ _ _ hr=>by
 exact "t m dza7 azbY dzbt dwC w l G l P o dzbX kzdt r l G o n y E cwJ J t m dza7 azbY dzbt dwC w l g i G n h l"
 exact (qe T.b_str sN)
 exact "o dzbX dzbt dwC ezj3 l g i G n h o y E cwJ J t m dza7 azbY dzbt dwC w l g i G n h l P o dzbX dzbt dwC w l g i G n h l P o y E cwJ J y E azb0 Q l z djF g i G n h v w l G l"
 exact (qe T.b_str sN)
 exact "o o dzbZ Q l z djF g i G n h v szj3 l G o o"
theorem R3:au ["_law_found"] ["_law_found"] (zW zfB):=by exact "7"
noncomputable def R4:Aj :=
  (yb (wY (zu (jy isT) (zd (zc 0) (zd (mC (.ty "tuple")) zo))) (wY (ze iE (zu yS (zd (zc 0) zo)) (Ar 0)) (zu mO (zd (jd (yG (zc 0)) (zu qT (zd (zc 0) zo))) zo)))))
noncomputable def tQ:Al:=yq 1 1 (R4)
theorem zj4 (T:Txt w K mg):bf P w K mg base "_law_is_parting" 3 tQ:=T.f__law_is_parting.ok (k:=2) R3 λ_ _ _ _ _ _ _ hr=>by
 exact "y E azb0 w l G l P o azb0"
 refine wK zdq ?_ ?_
 exact "r l G o n dzbZ Q l"
 refine oz (N:=["_law_found"]) rfl (by exact "8zfB") rfl (by decide +kernel) ?_ ?_
 exact "djF G v szsZ l G o o"
theorem zj5:au ["_law_program_here", "_law_name_here", "_law_function"] ["_law_program_here", "_law_name_here"] (zW Gi):=by exact "7"
noncomputable def R5:Aj :=
  zw (yV (yG (zc 0)) (gN 2)
  (zY (mB (ze wF (ze zv (zc 2) (Ar 0)) (zc 1)))
  (yb (zc 2))
  yd)) (yb (mC .non))
noncomputable def lH:Al:=yq 2 3 (R5)
def zf5 (T:Txt w K mg):bf P w K mg base "_law_by" 1 lH:=T.f__law_by.ok (k:=0) zj5 λ_ _ _ _ _ _ _ hr=>by
 exact "t p djF G Tzj5.nd y m kzfb g i S n h M y E S J y E czdo"
theorem R6:au ["_law_function", "_law_bits"] ["_law_function", "_law_bits"] (zW zfC):=by exact "7"
noncomputable def R8:Aj :=
  (yb (qL (zd (ze zv (zc 0) (Ar 1)) zo) (mB (ze ye (ze zV (ze yO (zc 3) (ze kn (Ar 1) (zc 0))) (Ar 2)) (Ar 1))) (zc 1)))
noncomputable def tR:Al:=yq 2 2 (R8)
theorem zs5 (T:Txt w K mg):bf P w K mg base "_law_later" 1 tR:=T.f__law_later.ok (k:=0) R6 λ_ _ _ _ _ _ _ hr=>by
 exact "y E"
 refine FG (N:=["_law_function", "_law_bits"]) rfl (by exact "9zfC") rfl (by decide +kernel) T.b_enumerate ?_ ?_ ?_
 exact "l g i G n h o v W K fjw 2 fzdB n G n n v M"
theorem R_:au ["_law_atom_here", "_law_later_here"] ["_law_atom_here", "_law_later_here"] (zW Gj):=by exact "7"
noncomputable def Sa:Aj :=
  (yb (wY (ze ye (ze zv (zc 0) (Ar 0)) (As "of")) (ze (yH false) (ze zv (zc 0) (Ar 1)) (zc 1))))
noncomputable def kE:Al:=yq 2 2 (Sa)
def zj6 (T:Txt w K mg):bf P w K mg base "_law_late" 1 kE:=T.f__law_late.ok (k:=0) R_ λ_ _ _ _ _ _ _ hr=>by
 exact "y E azb0 AyP g i G n h D dzbZ Azby g i G n h M"
theorem zf6:au ["_law_function", "_law_aims_here", "_law_line"] ["_law_function"] (zW Gk):=by exact "7"
noncomputable def Sb:Aj :=
  zw (zH 1 (yU zo)) (zw (yV (yG (zu kD (zd (ze zv (zc 0) (Ar 2)) zo))) (gN 2)
  (zw (zY (mB (ze ye (ze zv (zc 2) (Ar 0)) (As "call")))
  (yK (yF yJ (zc 1) (zC (zd (ze zv (zc 2) (Ar 2)) (zd (ze zv (zc 2) (Ar 3)) zo)))))
  yd)
  (zY (mB (ze ye (ze zv (zc 2) (Ar 0)) (As "go")))
  (yK (yF yJ (zc 1) (zC (zd (ze zv (zc 2) (Ar 1)) (zd (ze zv (zc 2) (Ar 2)) zo)))))
  yd))) (yb (zc 1)))
noncomputable def oN:Al:=yq 1 3 (Sb)
def zj7 (T:Txt w K mg):bf P w K mg base "_law_aims" 2 oN:=T.f__law_aims.ok (k:=1) zf6 λ_ _ _ _ _ _ _ hr=>by
 exact "t j1 Y o czf6.nd t p djF ezfV l g i G n h o Tzf6.nd t m W g i S n h D y djJ ajT M B l g i S n h l g i S n h o J y m W g i S n h D y djJ ajT M B l g i S n h l g i S n h o J y E M"
theorem wS:au ["_law_program_here", "_law_name_here", "_law_bits", "_law_held_here", "_law_function", "_law_later_here", "_law_named", "_law_line", "_law_late_here", "_law_goals", "_law_aim", "_law_atoms_here", "_law_keep", "_law_goal", "_law_k"] ["_law_program_here", "_law_name_here", "_law_bits", "_law_held_here"] (zW zdU):=by exact "7"
noncomputable def Sd:Aj :=
  zw (zH 4 (zu lH (zd (zc 0) (zd (zc 1) zo)))) (zw (zH 5 (zu tR (zd (zc 4) (zd (zc 2) zo)))) (zw (zH 6 (yU zo)) (zw (yV (yG (zu kD (zd (ze zv (zc 4) (Ar 2)) zo))) (gN 7)
  (zw (zH 8 (ze ye (ze zv (zc 7) (Ar 0)) (As "call")))
  (zw (zY (mB (ze ye (ze zv (zc 7) (Ar 0)) (As "let")))
  (zH 8 (mD (ze (yH false) (zC (zd (zc 1) (zd (ze zv (zc 7) (Ar 1)) zo))) (zc 3)) (zu oH (zd (jd (yG (ze zv (zc 7) (Ar 3))) (zu kE (zd (zc 0) (zd (zc 6) zo)))) zo))))
  yd)
  (zY (mB (zc 8))
  (zw (yK (yF yJ (zc 6) (ze zv (zc 7) (Ar 1))))
  (yK (yF yJ (zc 5) (ze zv (zc 7) (Ar 1)))))
  yd)))) (zw (zH 9 (yU zo)) (zw (yV (yG (zu oN (zd (zc 4) zo))) (g2 10 11)
  (zw (zH 12 (jd (yG (ze zv (zu lH (zd (zc 0) (zd (zc 10) zo))) (Ar 1))) (zu ou (zd (ze (yH false) (zC (zd (zc 11) (zd (zc 0) zo))) (zc 4)) zo))))
  (zw (zH 13 (Ar 0))
  (zw (yV (bP (zd (zu yS (zd (zc 12) zo)) zo)) (gN 14)
  (zY (jI (mB (ze ye (ze zv (zc 12) (zc 14)) (Ar 1))) (mB (zu kE (zd (ze zv (zc 11) (zc 14)) (zd (zc 5) zo)))))
  (zH 13 (ze ya (zc 13) (ze kn (Ar 1) (zc 14))))
  yd))
  (yK (yF yJ (zc 9) (zc 13))))))) (yb (zC (zd (zc 1) (zd (zc 2) (zd (zu jx (zd (zc 6) zo)) (zd (zu jx (zd (zc 9) zo)) zo)))))))))))
noncomputable def qU:Al:=yq 4 15 (Sd)
theorem zj8 (T:Txt w K mg):bf P w K mg base "_law_form" 3 qU:=T.f__law_form.ok (k:=2) wS λ_ _ _ _ _ _ _ hr=>by
 exact "t j4 ezf5 l G l M o cwS.nd t j5 ezs5 l b4 l S o cwS.nd t j6 Y o cwS.nd t p djF ezfV l g i b4 n h o"
 exact (wf 7 wS.nd)
 exact "t j8 AyP g i b7 n h D cwS.nd t m W g i b7 n h D y j8 azoP Azby B l M l g i b7 n h o 2 dzbZ"
 refine jc (Qg rfl) T.b_any Qh ?_
 exact "l"
 refine oz (N:=["_law_program_here", "_law_name_here", "_law_bits", "_law_held_here", "_law_function", "_law_later_here", "_law_named", "_law_line", "_law_late_here", "_law_goals", "_law_aim", "_law_atoms_here", "_law_keep", "_law_goal", "_law_k"]) rfl (by exact "8zdU") rfl (by decide +kernel) ?_ ?_
 exact "djF g i b7 n h v szj6 l G l b6 o o cwS.nd J y m dwC b8 t djJ ajT b6 g i b7 n h y djJ ajT b5 g i b7 n h J t j9 Y o cwS.nd t p djF ezj7 l b4 o"
 exact (qg 10 11 rfl wS.nd)
 exact "t"
 refine xO 12 (N:=["_law_program_here", "_law_name_here", "_law_bits", "_law_held_here", "_law_function", "_law_later_here", "_law_named", "_law_line", "_law_late_here", "_law_goals", "_law_aim", "_law_atoms_here", "_law_keep", "_law_goal", "_law_k"]) rfl (by exact "8zdU") rfl (by decide +kernel) ?_ ?_ wS.nd rfl (by exact "#") (by exact "$") (by rfl)
 exact "djF g i ezf5 l G l b10 o n h v"
 refine jE NH T.b_int D5 ?_
 exact "l Azby B l b11 l G o b4 o t j13 n cwS.nd t p C l r l b12 o o"
 exact (wf 14 wS.nd)
 exact "y m dza7 azbY W g i b12 b14 h n dzbX dwC ezj6 l g i b11 b14 h l b5 o y j13 O b13 fzdB n b14 cwS.nd J y djJ ajT b9 b13 y E B l M l S l q l b6 o l q l b9 o o"
theorem w9:au ["_law_script", "_law_program_here", "_law_cell", "_law_size", "_law_bits", "_law_held_here", "_law_found", "_law_met", "_law_form_here", "_law_aims_here", "_law_aim", "_law_goal", "_law_other"] ["_law_script"] (zW zdV):=by exact "7"
noncomputable def Se:Aj :=
  zw (zH 1 (zu AL (zd (zc 0) zo))) (zw (zH 2 (ze yO (zu jr (zd (zc 0) (zd (Ar 5) zo))) (Ar 8))) (zw (zH 3 (ze kn (Ar 1) (zu yS (zd (ze zv (ze zv (zc 1) (Ar 0)) (Ar 1)) zo)))) (zw (zH 4 (ze zV (zc 2) (zc 3))) (zw (zH 5 (zu AO (zd (ze yO (zc 2) (zc 3)) (zd (zc 1) zo)))) (zw (zH 6 (zu oM (zd (zc 1) (zd (zc 4) (zd (zc 5) zo))))) (zw (zY (wx (mB (zu tQ (zd (zc 6) zo))))
  (yb (mC (.bl false)))
  yd) (zw (zH 7 (yU (zd (zC (zd (ze zv (ze zv (zc 1) (Ar 0)) (Ar 0)) (zd (zc 4) zo))) zo))) (zw (yV (yG (zc 6)) (gN 8)
  (zw (zY (mB (ze (yH true) (zC (zd (ze zv (zc 8) (Ar 0)) (zd (ze zv (zc 8) (Ar 1)) zo))) (zc 7)))
  (yb (mC (.bl false)))
  yd)
  (zw (zY (mB (ze wM (zc 8) (zu qU (zd (zc 1) (zd (ze zv (zc 8) (Ar 0)) (zd (ze zv (zc 8) (Ar 1)) (zd (zc 5) zo)))))))
  (yb (mC (.bl false)))
  yd)
  (zw (zH 9 (zu oN (zd (zu lH (zd (zc 1) (zd (ze zv (zc 8) (Ar 0)) zo))) zo)))
  (qE (zd (zc 9) (zd (ze zv (zc 8) (Ar 3)) zo)) (g2 10 11)
  (zY (mB (ze (yH true) (zC (zd (ze zv (zc 10) (Ar 0)) (zd (zc 11) zo))) (zc 7)))
  (yK (yF yJ (zc 7) (zC (zd (ze zv (zc 10) (Ar 0)) (zd (zc 11) zo)))))
  yd)))))) (zw (zY (mB (ze y_ (jd (yG (zc 6)) (zC (zd (ze zv (zc 0) (Ar 0)) (zd (ze zv (zc 0) (Ar 1)) zo)))) (zc 7)))
  (yb (mC (.bl false)))
  yd) (zw (zH 12 (zu oM (zd (zc 1) (zd (ze jC (ze jC (zc 3) (Ar 1)) (zc 4)) (zd (zC zo) zo))))) (zw (zY (wx (mB (zu tQ (zd (zc 12) zo))))
  (yb (mC (.bl false)))
  yd) (zw (zY (mB (ze wM (ze zv (zc 12) (Ar 0)) (zu qU (zd (zc 1) (zd (ze zv (ze zv (zc 1) (Ar 0)) (Ar 0)) (zd (ze jC (ze jC (zc 3) (Ar 1)) (zc 4)) (zd (zC zo) zo)))))))
  (yb (mC (.bl false)))
  yd) (yb (ze wF (zu oM (zd (zc 1) (zd (zc 4) (zd (zc 5) zo)))) (zc 6)))))))))))))))
noncomputable def GK:Al:=yq 1 13 (Se)
theorem ztb (T:Txt w K mg) {f:Addr} {fd:FuncData} (F:eZ K "law" "law" zdV f fd):bG P w K mg base (cZ P w) 18 f fd ["_law_script"] (iF K mg GK):=sL (k:=17) F w9 λaU A outer s H E hr =>by
 exact "t j1 ezsb l G o 6 t j2 fjw ewI l G l n o n 6 t j3 fzdB n r l g i g i M n h n h o 6 t j4 K S 2 6 t j5 ezse l fjw S 2 l M o 6 t j6 ezf4 l M l b4 l b5 o 6 t m dzbt dwC ezj4 l b6 o y E cwJ J t j7 Y l B l g i g i M n h n h l b4 o o 6 t p djF b6"
 exact (wf 8 w9.nd)
 exact "t m kze3 B l g i b8 n h l g i b8 n h o b7 y E cwJ J t m kzdt b8 ezj8 l M l g i b8 n h l g i b8 n h l b5 o y E cwJ J t j9 ezj7 l ezf5 l M l g i b8 n h o o 6 y"
 refine Qr (jA rfl rfl) rfl T.b_zip ?_ ?_ ?_
 exact "l b9 l g i b8 n h o"
 exact (qg 10 11 rfl w9.nd)
 exact "y m kze3 B l g i b10 n h l b11 o b7 y djJ ajT b7 B l g i b10 n h l b11 o J t m kzrH"
 refine El (M:=["_law_script", "_law_program_here", "_law_cell", "_law_size", "_law_bits", "_law_held_here", "_law_found", "_law_met", "~_law_form_here", "_law_aims_here", "_law_aim", "_law_goal", "_law_other"]) rfl (by exact "8zdV") (by exact ⟨rfl,by show ∀p∈List.zip (["_law_script", "_law_program_here", "_law_cell", "_law_size", "_law_bits", "_law_held_here", "_law_found", "_law_met", "~_law_form_here", "_law_aims_here", "_law_aim", "_law_goal", "_law_other"]:Ad) (["_law_script", "_law_program_here", "_law_cell", "_law_size", "_law_bits", "_law_held_here", "_law_found", "_law_met", "_law_form_here", "_law_aims_here", "_law_aim", "_law_goal", "_law_other"]:Ad),p.1=p.2\/p.1∉(_:Ad);decide +kernel⟩) (by decide +kernel) ?_ ?_
 exact "djF b6 v B l g i G n h l g i G n h o b7 y E cwJ J t j12 ezf4 l M l fwL fwL 2 n b4 l B o o 6 t m dzbt dwC ezj4 l b12 o y E cwJ J t m kzdt g i b12 n h ezj8 l M l g i g i M n h n h l fwL fwL 2 n b4 l B o o y E cwJ J y E Azfb ezf4 l M l b4 l b5 o b6"
end
def tS (i j:Int) (h:0<j):yY i j=i%j:=by unfold yY;rw [zF h]
def GL (i j:Int) (h:0<j):jD i j=i/j:=by unfold jD;rw [zF h]
noncomputable abbrev mX:Str := "abcdefghijklmnopqrstuvwxyz"
def Old (a b:aa):Prop:=∀(n:Nat) so,a[n]?=some so->b[n]?=some so
def Old.refl (a:aa):Old a a:=λ_ _ e=>e
def Old.trans {a b c:aa}(h:Old a b) (h':Old b c):Old a c:=λn so e=>h' n so (h n so e)
def Sf {a b:aa}(h:Pre a b):Old a b:=λn so e=>h.get e
def zU (a d:aa):Old a (a++d):=Sf (Pre.of a d)
theorem GN {g:PV->zm->Option zm}{body:Aj}(I:Nat->zm->aa->Prop) (n:Nat) (hb:∀i e st,i<n->I i e st->∃e1 e2 ay,g (.int i) e=some e1/\body e1 st=.ok (.nx e2) ay/\I (i+1) e2 ay) :
  ∀(k i:Nat) (env:zm) (st:aa),i+k=n->I i env st->∃bp bu,forL g body ((List.range' i k).map λi:Nat=>PV.int i) env st=.ok (.nx bp) bu/\I n bp bu
 | 0,i,env,st,hk,h=>⟨env,st,by simp,by rw [<-hk];exact h⟩
 | k+1,i,env,st,hk,h=>by
  obtain ⟨e1,e2,ay,q1,q2,q3⟩:=hb i env st (by omega) h
  obtain ⟨bp,bu,r1,r2⟩:=GN I n hb k (i+1) e2 ay (by omega) q3
  refine ⟨bp,bu,?_,r2⟩
  rw [List.range'_succ,yu]
  unfold forL
  rw [q1]
  simp only
  rw [q2]
  simp only [zG]
  exact r1
theorem Sg (m:Nat) (st:aa) (h:m<=1000):mH [.int (m:Int)] st=.ok (.im ((List.range' 0 m).map λi:Nat=>PV.int i)) st:=by
 have hr:cR (m:Int)=true:=by simp [cR];omega
 simp [hr,nums,List.range_eq_range']
theorem bz (i:Int) (j:Nat) (h:0<j):∃b:Nat,b<j/\yY i j=b:=by
 have h1:=Int.emod_nonneg i (show (j:Int)≠0 by omega)
 have h2:=Int.emod_lt_of_pos i (show (0:Int)<j by omega)
 exact ⟨(i%j).toNat,by omega,by rw [tS _ _ (by omega)];omega⟩
def yk {st:aa}{n:Nat}{so:SO}(h:st[n]?=some so):n<st.length:=(yt.mp h).1
theorem tT {fe:Ai}{env:zm}(xs:An) (I:Nat->List PV->aa->Prop) (step:∀i x ys st,xs[i]?=some x->I i ys st->∃y aq,fe (some x::env) st=.ok y aq/\I (i+1) (ys++[y]) aq) :
  ∀(k i:Nat) (ys:An) (st:aa),i+k=xs.length->I i ys st->∃ke bu,cT fe env (xs.drop i) ys st=.ok (.ref bu.length) (bu++[.lst ke])/\I xs.length ke bu
 | 0,i,ys,st,hk,h=>⟨ys,st,by rw [lS (by omega)];rfl,by rw [<-hk];exact h⟩
 | k+1,i,ys,st,hk,h=>by
  have hx:xs[i]?=some (xs[i]'(by omega)):=yx (by omega)
  obtain ⟨y,aq,e,h1⟩:=step i _ ys st hx h
  obtain ⟨ke,bu,r,h2⟩:=tT xs I step k (i+1) (ys++[y]) aq (by omega) h1
  refine ⟨ke,bu,?_,h2⟩
  rw [wa (by omega)]
  unfold cT
  rw [e]
  simp only [mI,zG]
  exact r
noncomputable abbrev S (l:List Nat):Str:=⟨l.toArray⟩
def tU (z:Str):S z.cps.toList=z:=by cases z;simp [S]
def ad (x y:Str) (h:x.length+y.length<=1000000) (st:aa):ya (.str x) (.str y) st=.ok (.str (x++y)) st:=by
 rw [OG,zF h]
def g9 {α:Type}{l:List α}{i:Nat}{x:α}(h:l[i]?=some x):l.take (i+1)=l.take i++[x]:=by
 obtain ⟨hi,e⟩:=yt.mp h
 rw [<-e,List.take_append_getElem]
theorem oO {g:PV->zm->Option zm}{body:Aj}{n:Nat}(xs:An) (I:Nat->zm->aa->Prop) (at_:∀i e st,I i e st->st[n]?=some (.lst xs)) (step:∀i x e st,xs[i]?=some x->I i e st->∃e1 e2 ay,g x e=some e1/\body e1 st=.ok (.nx e2) ay/\I (i+1) e2 ay) :
  ∀(k i m:Nat) (env:zm) (st:aa),i+k=xs.length->k<m->I i env st->∃bp bu,forR g body n m i env st=.ok (.nx bp) bu/\I xs.length bp bu
 | 0,i,m,env,st,hk,hm,h=>by
  obtain ⟨m,rfl⟩:∃j,m=j+1:=⟨m-1,by omega⟩
  refine ⟨env,st,?_,by rw [<-hk];exact h⟩
  unfold forR
  rw [yr (at_ _ _ _ h),pd (by omega)]
 | k+1,i,m,env,st,hk,hm,h=>by
  obtain ⟨m,rfl⟩:∃j,m=j+1:=⟨m-1,by omega⟩
  have hx:xs[i]?=some (xs[i]'(by omega)):=yx (by omega)
  obtain ⟨e1,e2,ay,q1,q2,q3⟩:=step i _ env st hx h
  obtain ⟨bp,bu,r,h2⟩:=oO xs I at_ step k (i+1) m e2 ay (by omega) (by omega) q3
  refine ⟨bp,bu,?_,h2⟩
  unfold forR
  rw [yr (at_ _ _ _ h),hx]
  simp only
  rw [q1]
  simp only
  rw [q2]
  simp only [zG]
  exact r
def a4 {α:Type}{l:List α}{k:Nat}{x:α}(h:l[k]?=some x):dh l (k:Int)=some x:=by
 have:=(yt.mp h).1
 have e:=(yt.mp h).2
 simp [dh,iY,this,e]
def GO (st:aa):wZ (.int 10) (.int 9) st=.ok (.int 1000000000) st:=by
 have cp:dC 10 9=true:=by decide
 have pw:((10:Int) ^ (9:Int).toNat)=1000000000:=by decide
 show (if dC 10 9=true then Res.ok (PV.int (10 ^ (9:Int).toNat)) st else .stuck)=_
 rw [zF cp,pw]
def kF {i j:Int}(b:Bool) (h:decide (i<j)=b) (st:aa):oLt (.int i) (.int j) st=.ok (.bl b) st:=by rw [Qt,h]
def bq {i j:Int}(b:Bool) (h:decide (i=j)=b) (st:aa):ye (.int i) (.int j) st=.ok (.bl b) st:=by rw [xW,h]
def lI {i j:Int}(b:Bool) (h:decide (j<i)=b) (st:aa):iE (.int i) (.int j) st=.ok (.bl b) st:=by rw [Qu,h]
noncomputable def mY (j:Nat):Nat:=(mX.cps.toList[j]?).getD 0
theorem Sh (j:Nat) (hj:j<26) (st:aa):zv (.str mX) (.int j) st=.ok (.str ⟨#[mY j]⟩) st/\mY j∈mX.cps.toList:=by
 have hz:mX.cps.toList.length=26:=by decide +kernel
 have lt:j<mX.cps.toList.length:=by omega
 have hl:mX.length<=1000000:=by decide +kernel
 have e:mX.cps.toList[j]?=some (mY j):=by unfold mY;rw [yx lt];rfl
 refine ⟨?_,wb e⟩
 rw [Ey,OX,zF hl,a4 e]
 rfl
def Si {n i:Nat}{x:PV}(h:(nums 0 n)[i]?=some x):i<n/\x=.int (i:Int):=by
 unfold nums at h
 rw [yM] at h
 cases e:(List.range n)[i]? with
 | none=>rw [e] at h;cases h
 | some j =>
  rw [e] at h
  obtain ⟨h1,h2⟩:=yt.mp e
  rw [List.getElem_range] at h2
  rw [List.length_range] at h1
  cases h
  exact ⟨h1,by subst h2;simp⟩
def AV (n:Nat):(nums 0 n).length=n:=by simp [nums]
def Sj (m:Nat) (st:aa) (h:m<=1000):mH [.int (m:Int)] st=.ok (.im (nums 0 m)) st:=by
 have hr:cR (m:Int)=true:=by simp [cR];omega
 rw [Pj,zF hr];simp
theorem AW {fe:Ai}{fs:Ah}{env:zm}{st s0:aa}(n:Nat) (hn:n<=1000) (hf:fs env st=.ok [.int (n:Int)] s0) (I:Nat->List PV->aa->Prop) (step:∀i ys st,i<n->I i ys st->∃y aq,fe (Au i::env) st=.ok y aq/\I (i+1) (ys++[y]) aq) (h0:I 0 [] s0) :
  ∃ke bu,(jd (bP fs) fe) env st=.ok (.ref bu.length) (bu++[.lst ke])/\I n ke bu:=by
 obtain ⟨ys,s1,C,h⟩:=tT (fe:=fe) (env:=env) (nums 0 n) I (λi x ys st hx h=>by
  obtain ⟨hi,rfl⟩:=Si hx
  exact step i ys st hi h) n 0 [] s0 (by rw [AV];omega) h0
 rw [AV] at h
 refine ⟨ys,s1,?_,h⟩
 rw [iI,Ez,hf,zG,Sj n _ hn,zG,iJ,zF (by rw [AV];simp [lim];omega)]
 exact C
theorem Sk:("" : Str).length=0:=by decide +kernel
theorem tV {fo fi fv:Ai}{e:zm}{s s1:aa}{r:Nat}{z:Str}{x:PV}{ks:Ad}{xs:An}(hv:fv e s=.ok x s1) (ho:fo e s1=.ok (.ref r) s1) (hi:fi e s1=.ok (.str z) s1) (hr:s1[r]?=some (.dic ks xs)) (hl:ks.length<=1000) :
  iH fo fi fv e s=.ok (.nx e) (s1.set r (.dic (wE z x ks xs).1 (wE z x ks xs).2)):=by
 unfold iH
 rw [hv,zG,ho,zG,hi,zG]
 show (jS s1 r _).bind _=_
 rw [Qb hr,zF (by simp [lim];omega),zG]
def mZ {fs:Ah}{gt:PV->zm->Option zm}{body:Aj}{e:zm}{st s0:aa}(I:Nat->zm->aa->Prop) (n:Nat) (hn:n<=1000) (hf:fs e st=.ok [.int (n:Int)] s0) (step:∀i e st,i<n->I i e st->∃e1 e2 ay,gt (.int (i:Int)) e=some e1/\body e1 st=.ok (.nx e2) ay/\I (i+1) e2 ay) (h0:I 0 e s0) :
  ∃e' s',yV (bP fs) gt body e st=.ok (.nx e') s'/\I n e' s':=by
 obtain ⟨e',s',F,h⟩:=GN (g:=gt) (body:=body) I n step n 0 e s0 (by omega) h0
 refine ⟨e',s',?_,h⟩
 rw [wN,Ez,hf,zG,Sg n _ hn,zG,OS]
 exact F
theorem Sl {z:Str}{i c:Nat}(hl:z.length<=1000) (h:z.cps.toList[i]?=some c) (st:aa):zv (.str z) (.int (i:Int)) st=.ok (.str ⟨#[c]⟩) st:=by
 rw [Ey,zF (by simp [lim];omega),a4 h]
 rfl
theorem Sm (c:Nat) (m:Nat) (hm:0<m):jD (c:Int) (m:Int)=((c/m:Nat):Int):=by rw [GL _ _ (by omega)];exact (Int.natCast_ediv c m).symm
def Sn (c:Nat) (m:Nat) (hm:0<m):yY (c:Int) (m:Int)=((c%m:Nat):Int):=by rw [tS _ _ (by omega)];exact (Int.natCast_emod c m).symm
theorem g_ {st:aa}(c m:Nat) (hm:0<m) (h2:m<2 ^ 60):yO (.int (c:Int)) (.int (m:Int)) st=.ok (.int ((c/m:Nat):Int)) st:=by rw [wH _ _ (by omega) (by omega),Sm c m hm]
def jM {st:aa}(c m:Nat) (hm:0<m):zV (.int (c:Int)) (.int (m:Int)) st=.ok (.int ((c%m:Nat):Int)) st:=by rw [jj _ _ (by omega),Sn c m hm]
def yZ {st:aa}(a b:Nat):ya (.int (a:Int)) (.int (b:Int)) st=.ok (.int ((a+b:Nat):Int)) st:=by rw [qI];congr 2
theorem fX {st:aa}(a b:Nat) (h:a<2 ^ 60\/b<2 ^ 60):jq (.int (a:Int)) (.int (b:Int)) st=.ok (.int ((a*b:Nat):Int)) st:=by
 rw [Qw _ _ (by simp only [gK,Bool.or_eq_true,iT,nS];exact h.elim (λh=>.inl ⟨by omega,by omega⟩) (λh=>.inr ⟨by omega,by omega⟩))]
 congr 2
def AX {α:Type}{l:List α}(nd:l.Nodup) {i j:Nat}(hi:i<l.length) (hj:j<l.length) (h:l[i]=l[j]):i=j:=by
 have p:=List.pairwise_iff_getElem.mp nd
 rcases Nat.lt_trichotomy i j with q|q|q
 ·exact absurd h (p i j hi hj q)
 ·exact q
 ·exact absurd h.symm (p j i hj hi q)
def So {i j:Nat}{f:Ai}{e:zm}{st s1:aa}{x y:PV}(h:f e st=.ok (.tup [x,y]) s1):qh (g2 i j) f e st=.ok (.nx ((e.set i (some x)).set j (some y))) s1:=by
 unfold qh
 rw [h,zG]
 rfl
def yL {f fa fb:Ai}{e:zm}{st s1 s2 s3:aa}{x y z:PV}(h:f e st=.ok x s1) (h':fa e s1=.ok y s2) (h2:fb e s2=.ok z s3):zd f (zd fa (zd fb zo)) e st=.ok [x,y,z] s3:=wQ h (zT h' h2)
def wo {f fa fb fc:Ai}{e:zm}{st s1 s2 s3 s4:aa}{x y z w:PV}(h:f e st=.ok x s1) (h':fa e s1=.ok y s2) (h2:fb e s2=.ok z s3) (h3:fc e s3=.ok w s4):zd f (zd fa (zd fb (zd fc zo))) e st=.ok [x,y,z,w] s4:=wQ h (yL h' h2 h3)
theorem wz {s:aa}{n:Nat}{xs:An}{y:PV}(h:s[n]?=some (.lst xs)) (hl:xs.length<=100000):yJ (.ref n) y s=.ok .non (s.set n (.lst (xs++[y]))):=by rw [EE,yr h,zF (by simp [lim];omega)]
def Sr {s:aa}{n:Nat}{xs:An}(h:s[n]?=some (.lst xs)):gQ [.ref n] s=.ok (.ref s.length) (s++[.lst xs]):=by
 simp only [gQ,h]
 show yi s n _=_
 rw [yr h]
def Ss {s:aa}{xs:An}:gQ [.tup xs] s=.ok (.ref s.length) (s++[.lst xs]):=by
 show qf [.tup xs] s=_
 rfl
def yN {x:PV}{r:An}{st:aa}:zv (.tup (x::r)) (.int 0) st=.ok x st:=by
 have e:=a4 (l:=x::r) (k:=0) (x:=x) rfl
 exact (congrArg (λz=>b3 z st) e).trans rfl
def js {x y:PV}{r:An}{st:aa}:zv (.tup (x::y::r)) (.int 1) st=.ok y st:=by
 have e:=a4 (l:=x::y::r) (k:=1) (x:=y) rfl
 exact (congrArg (λz=>b3 z st) e).trans rfl
def wT {x y z:PV}{r:An}{st:aa}:zv (.tup (x::y::z::r)) (.int 2) st=.ok z st:=by
 have e:=a4 (l:=x::y::z::r) (k:=2) (x:=z) rfl
 exact (congrArg (λz=>b3 z st) e).trans rfl
def iN {x y z w:PV}{r:An}{st:aa}:zv (.tup (x::y::z::w::r)) (.int 3) st=.ok w st:=by
 have e:=a4 (l:=x::y::z::w::r) (k:=3) (x:=w) rfl
 exact (congrArg (λz=>b3 z st) e).trans rfl
def tX {xs ys:An}{st:aa}(h:xs.length+ys.length<=1000000):ya (.tup xs) (.tup ys) st=.ok (.tup (xs++ys)) st:=by
 show (if xs.length+ys.length<=lim then _ else _)=_
 rw [zF (by simpa [lim] using h)]
def eqs (a b:Str) (c:Bool) (h:decide (a=b)=c) (st:aa):ye (.str a) (.str b) st=.ok (.bl c) st:=by rw [Qv,h]
def uT (a b:Str) (c:Bool) (h:(a==b)=c) (st:aa):wF (.str a) (.str b) st=.ok (.bl c) st:=by
 unfold wF
 rw [show eqT st 150 (.str a) (.str b)=some c by show some (a==b)=_;rw [h]]
def oP {s:aa}{m n:Nat}{xs ys:An}(h:s[m]?=some (.lst xs)) (h':s[n]?=some (.lst ys)) (hl:xs.length+ys.length<=1000000):ya (.ref m) (.ref n) s=.ok (.ref s.length) (s++[.lst (xs++ys)]):=by
 show yi s m _=_
 rw [yr h,yr h']
 exact zF (by simpa [lim] using hl)
theorem n1:("let" : Str) ≠ "call" := by decide +kernel
theorem n2:("let" : Str) ≠ "go" := by decide +kernel
theorem n3:("give" : Str) ≠ "call" := by decide +kernel
theorem n4:("give" : Str) ≠ "go" := by decide +kernel
theorem n5:("fail" : Str) ≠ "call" := by decide +kernel
theorem n6:("fail" : Str) ≠ "go" := by decide +kernel
theorem n7:("go" : Str) ≠ "call" := by decide +kernel
theorem n8:("if" : Str) ≠ "call" := by decide +kernel
theorem n9:("if" : Str) ≠ "go" := by decide +kernel
theorem tY:("give" : Str) ≠ "let" := by decide +kernel
theorem AY:("fail" : Str) ≠ "let" := by decide +kernel
theorem tZ:("go" : Str) ≠ "let" := by decide +kernel
theorem GP:("if" : Str) ≠ "let" := by decide +kernel
def dG {a b:Str}(h:a≠b) (st:aa):ye (.str a) (.str b) st=.ok (.bl false) st:=eqs a b false (by simpa using h) st
def fY {a:Str}(st:aa):ye (.str a) (.str a) st=.ok (.bl true) st:=eqs a a true (by simp) st
def q0 {z y:Str}{c:Bool}{e:zm}{r:An}{s:aa}{i:Nat}(hi:e[i]?=some (some (.tup (.str z::r)))) (h:ye (.str z) (.str y) s=.ok (.bl c) s):(mB (ze ye (ze zv (zc i) (Ar 0)) (As y))) e s=.ok c s:=yc (zp (zp (zf hi) rfl yN) rfl h)
def oQ (z:Str) (c:Bool) (h:((("let" : Str)==z)||(("call" : Str)==z))=c) (st:aa):yH false (.str z) (.tup [.str "let", .str "call"]) st=.ok (.bl c) st:=by
 rw [ED,zF ⟨rfl,rfl,by simp [cg,dep]⟩]
 simp [a_,h]
theorem AZ {ft:Ak}{fe:Ai}{env:zm}{st:aa}{n:Nat}{p:PV->Bool}{f:PV->PV}(xs:An) (hn:st[n]?=some (.lst xs)) (h:∀x∈xs,ft (some x::env) st=.ok (p x) st) (h':∀x∈xs,p x=true->fe (some x::env) st=.ok (f x) st):∀(k i m:Nat) (ys:An),i+k=xs.length->k<m->dP ft fe env n m i ys st=.ok (.ref st.length) (st++[.lst (ys++(xs.drop i).flatMap λx=>if p x=true then [f x] else [])])
 | 0,i,m,ys,hk,hm=>by
  obtain ⟨m,rfl⟩:∃j,m=j+1:=⟨m-1,by omega⟩
  unfold dP
  rw [yr hn,pd (by omega),lS (by omega)]
  simp
 | k+1,i,m,ys,hk,hm=>by
  obtain ⟨m,rfl⟩:∃j,m=j+1:=⟨m-1,by omega⟩
  have hi:i<xs.length:=by omega
  have hx:xs[i]?=some (xs[i]'hi):=yx hi
  have mem:=wV hi
  have ih:=AZ (ft:=ft) (fe:=fe) (env:=env) xs hn h h' k (i+1) m
  unfold dP
  rw [yr hn,hx]
  simp only
  rw [h _ mem]
  simp only [mI,zG]
  rw [wa hi,rE]
  cases hp:p (xs[i]'hi) with
  | true =>
   simp only [ia]
   rw [h' _ mem hp]
   simp only [mI,zG]
   rw [ih _ (by omega) (by omega)]
   simp
  | false =>
   rw [zP (by simp),ih _ (by omega) (by omega)]
   simp
theorem dg {g:PV->zm->Option zm}{body:Aj}(xs:An) (I:Nat->zm->aa->Prop) (step:∀i x e st,xs[i]?=some x->I i e st->∃e1 e2 ay,g x e=some e1/\body e1 st=.ok (.nx e2) ay/\I (i+1) e2 ay) :
  ∀(k i:Nat) (env:zm) (st:aa),i+k=xs.length->I i env st->∃bp bu,forL g body (xs.drop i) env st=.ok (.nx bp) bu/\I xs.length bp bu
 | 0,i,env,st,hk,h=>⟨env,st,by rw [lS (by omega)];rfl,by rw [<-hk];exact h⟩
 | k+1,i,env,st,hk,h=>by
  have hx:xs[i]?=some (xs[i]'(by omega)):=yx (by omega)
  obtain ⟨e1,e2,ay,q1,q2,q3⟩:=step i _ env st hx h
  obtain ⟨bp,bu,r,h2⟩:=dg xs I step k (i+1) e2 ay (by omega) q3
  refine ⟨bp,bu,?_,h2⟩
  rw [wa (by omega)]
  unfold forL
  rw [q1]
  simp only
  rw [q2]
  simp only [zG]
  exact r
def Su {s:aa}{n:Nat}{xs:An}{y:PV}(h:s[n]?=some (.lst xs)) (hl:xs.length<1000000):yJ (.ref n) y s=.ok .non (s.set n (.lst (xs++[y]))):=by rw [EE,yr h,zF (by simpa [lim] using hl)]
theorem wU (c:Int) (t m:Nat) (ht:t<=1000) (hm:0<m) (st:aa):∃j:Nat,j<m/\jG [.int c,.int (t:Int),.int (m:Int)] st=.ok (.int (j:Int)) st:=by
 obtain ⟨a,ha,ea⟩:=bz c 1000003 (by decide)
 have ea:yY c 1000003=(a:Int):=ea
 obtain ⟨b,hb,eb⟩:=bz ((a*(48271+2*t)+7919*t:Nat):Int) 999983 (by decide)
 obtain ⟨j,hj,ej⟩:=bz (b:Int) m hm
 refine ⟨j,hj,yg rfl (yn (zp (zp (zp (zp (zp (zf rfl) rfl ((jj _ _ (by decide)).trans (by rw [ea]))) (zp rfl (zp rfl (zf rfl) (fX 2 t (.inl (by decide)))) (yZ 48271 _)) (fX a _ (.inl (by omega)))) (zp rfl (zf rfl) (fX 7919 t (.inl (by decide)))) (yZ _ _)) rfl ((jj _ _ (by decide)).trans ?_)) (zf rfl) ((jj _ _ (by omega)).trans (by rw [ej]))))⟩
 have:yY ((a*(48271+2*t)+7919*t:Nat):Int) 999983=(b:Int):=eb
 rw [this]
def Sv (is:List Int):dM (is.map PV.int)=some is:=by
 induction is with
 | nil=>rfl
 | cons i r ih=>simp [dM,ih]
theorem iO (ns:List Int) (k:Nat) (h9:k<1000) (st:aa):∃c s1,jr [.frl (ns.map PV.int),.int (k:Int)] st=.ok (.int c) s1/\Old st s1:=by
 by_cases hk:(k:Int)<ns.length
 ·have:dh (ns.map PV.int) k=some (.int (ns[k]'(by omega))):=a4 (by rw [yM,yx (by omega)];rfl)
  simp only [jr,yq,Az,Ay,Ax]
  simp [this]
  rw [zF (by omega)]
  exact ⟨_,_,rfl,Old.refl _⟩
 ·have hc:cX (List.map PV.int ns) none (some 63)=(ns.take 63).map PV.int:=by
   simp [cX,HT.sIx,List.map_take]
  have h1:gK 977 k=true:=by simp [gK]
  simp only [jr,yq,Az,Ay,Ax]
  have hi:dM (List.take 63 (ns.map PV.int))=some (ns.take 63):=by rw [<-List.map_take];exact Sv _
  have lA:¬k<ns.length:=by omega
  simp [lA,hc,hi,h1,vZ]
  generalize hx:yY ((ns.take 63).sum+977*(k:Int)+13) 1000003=x
  have Sw : -18446744073709551616<x/\x<18446744073709551616:=by
   rw [tS _ _ (by decide)] at hx
   have:=Int.emod_nonneg ((ns.take 63).sum+977*(k:Int)+13) (show (1000003:Int)≠0 by decide)
   have:=Int.emod_lt_of_pos ((ns.take 63).sum+977*(k:Int)+13) (show (0:Int)<1000003 by decide)
   constructor<;>omega
  rw [zF Sw]
  exact ⟨_,_,rfl,zU _ _⟩
noncomputable abbrev sg:Str := "abcdefghijklmnopqrstuvwxyz0123456789"
theorem Sx:sg.cps.toList.length=36:=by decide +kernel
noncomputable def iP (j:Nat):Nat:=(sg.cps.toList[j]?).getD 0
theorem GQ (j:Nat) (h:j<36) (st:aa):zv (.str sg) (.int (j:Int)) st=.ok (.str ⟨#[iP j]⟩) st:=Sl (by decide +kernel) (by unfold iP;rw [yx (by rw [Sx];exact h)];rfl) st
theorem Sy:∀i,i<36->∀j,j<36->iP i=iP j->i=j:=by decide +kernel
structure Nm (c:Nat) (nm:Nat->Str):Prop where
 one:∀i j:Nat,(c%4≠2->i<20/\j<20)->nm i=nm j->i=j
 at_:∀k:Nat,k<1000->∀st,∃s1,wy [.int (c:Int),.int (k:Int)] st=.ok (.str (nm k)) s1/\Old st s1
noncomputable def t7:Ad:=["of", "is", "let", "call", "go", "if", "give", "fail", "else", "end", "fun", "add", "head", "rest", "item"]
noncomputable def m8:Ad:=["of", "is", "let", "call", "go", "if", "give", "fail", "else", "end", "fun", "add", "head", "rest", "item", "kind", "same", "put", "field", "many"]
theorem Sz:m8.Nodup:=by decide +kernel
theorem GR (n:Nat) (h:n<2000000):(n:Int).natAbs.log2<1920:=by
 have h1:n<2 ^ 21:=by
  have:(2:Nat) ^ 21=2097152:=by decide
  omega
 rw [Int.natAbs_natCast]
 by_cases hz:n=0
 ·rw [hz];decide
 ·have:=(Nat.log2_lt hz).mpr h1
  omega
noncomputable def kG (n:Nat):Str:=Str.ofString (toString (n:Int))
def GS {i j:Nat}(h:kG i=kG j):i=j:=by
 unfold kG at h
 have h:=(OW _ _).mp h
 have h:Nat.repr i=Nat.repr j:=h
 exact Nat.repr_injective h
theorem GU (n:Nat) (h:n<2000000):(kG n).length<=2000:=by
 have e:=int_text_length_le (a:=(n:Int)) (k:=1920) (by decide) (GR n h)
 unfold kG
 rw [ofString_length]
 omega
def GV (n:Nat) (h:n<2000000) (st:aa):mK [.int (n:Int)] st=.ok (.str (kG n)) st:=by
 rw [Pk,zF (GR n h)];rfl
def A3 {a:Str}{x y:Str}(h:a++x=a++y):x=y:=by
 have:=congrArg (λz:Str=>z.cps.toList) h
 simp only [PySem.Str.cps_append,Array.toList_append] at this
 have:=List.append_cancel_left this
 rw [<-tU x,<-tU y,this]
def SA {a x y:Str}(h:x++a=y++a):x=y:=by
 have:=congrArg (λz:Str=>z.cps.toList) h
 simp only [PySem.Str.cps_append,Array.toList_append] at this
 have:=List.append_cancel_right this
 rw [<-tU x,<-tU y,this]
def GW {i j:Nat}(hi:i<36) (hj:j<36) (h:(⟨#[iP i]⟩:Str)=⟨#[iP j]⟩):i=j:=by
 injection h with h
 have:iP i=iP j:=by simpa using h
 exact Sy i hi j hj this
def t_ {c k:Nat}{st:aa}{X:Res Fl}(h:AF [Au c,Au k,At st.length,some (.str sg),none] (st++[.lst (t7.map PV.str)])=X):Gx [Au c,Au k,none,none,none] st=X:=zB (zN (jh (xs:=t7.map PV.str) rfl (by decide))) (zB (zN rfl) h)
theorem A4 (c:Nat) (hb:c<2 ^ 50):∃nm,Nm c nm:=by
 have e4:∀s:aa,zV (.int (c:Int)) (.int 4) s=.ok (.int ((c%4:Nat):Int)) s:=λs=>jM c 4 (by decide)
 have d4:∀s:aa,yO (.int (c:Int)) (.int 4) s=.ok (.int ((c/4:Nat):Int)) s:=λs=>g_ c 4 (by decide) (by decide)
 by_cases c0:c%4=0
 ·refine ⟨λk=>⟨#[iP ((c/4+k)%26)]⟩,λi j cq h=>?_,λk hk st=>⟨_,yg rfl (t_ (jV (yR (yc (zp (zp (zf rfl) rfl (e4 _)) rfl (bq true (by simp;omega) _))) (yn (zp (zf rfl) (zp (zp (zp (zf rfl) rfl (d4 _)) (zf rfl) (yZ _ _)) rfl (jM _ 26 (by decide))) (GQ _ (by have:=jQ (c/4+k) (show 0<26 by decide);omega) _)))))),zU _ _⟩⟩
  have cq:=cq (by omega)
  have:=GW (by have:=jQ (c/4+i) (show 0<26 by decide);omega) (by have:=jQ (c/4+j) (show 0<26 by decide);omega) h
  omega
 have S1:∀{k:Nat} {st s:aa} {X:Res Fl},AE [Au c,Au k,At st.length,some (.str sg),none] s=X->AF [Au c,Au k,At st.length,some (.str sg),none] s=X:=λh=>zB (yD (yc (zp (zp (zf rfl) rfl (e4 _)) rfl (bq false (by simp;omega) _)))) h
 by_cases c1:c%4=1
 ·generalize ep:c/4%7=p
  have hp:p<7:=by rw [<-ep];exact jQ _ (by decide)
  have l7:("7" : Str).length=1:=by decide +kernel
  have le:("e" : Str).length=1:=by decide +kernel
  have lu:("u" : Str).length=1:=by decide +kernel
  have sb:(6:Int)-(p:Int)=((6-p:Nat):Int):=by omega
  have r1:∀s:aa,jq (.str "7") (.int (p:Int)) s=.ok (.str (cj "7" (p:Int))) s:=λs=>by rw [EC,zF ⟨by omega,by omega,by rw [l7];decide⟩]
  have r2:∀s:aa,jq (.str "e") (.int ((6-p:Nat):Int)) s=.ok (.str (cj "e" ((6-p:Nat):Int))) s:=λs=>by rw [EC,zF ⟨by omega,by omega,by rw [le];decide⟩]
  have z1:(cj "7" (p:Int)).length<=10:=by rw [xE,l7];omega
  have z2:(cj "e" ((6-p:Nat):Int)).length<=10:=by rw [xE,le];omega
  have z3:("u" ++ cj "7" (p:Int):Str).length<=20:=by rw [strLen_append,lu];omega
  refine ⟨λk=>("u" ++ cj "7" (p:Int))++⟨#[iP ((c/28+k)%36)]⟩++cj "e" ((6-p:Nat):Int),λi j cq h=>?_,λk hk st=>⟨_,yg rfl (t_ (S1 (jV (yR (yc (zp (zp (zf rfl) rfl (e4 _)) rfl (bq true (by simp;omega) _))) (zB (zN (zp (zp (zf rfl) rfl (d4 _)) rfl ((jM _ 7 (by decide)).trans (by rw [ep])))) (yn (zp (zp (zp rfl (zp rfl (zf rfl) (r1 _)) (ad _ _ (by omega) _)) (zp (zf rfl) (zp (zp (zp (zf rfl) rfl (g_ c 28 (by decide) (by decide))) (zf rfl) (yZ _ _)) rfl (jM _ 36 (by decide))) (GQ _ (jQ _ (by decide)) _)) (ad _ _ ?_ _)) (zp rfl (zp rfl (zf rfl) ((wG _ _).trans (by rw [sb]))) (r2 _)) (ad _ _ ?_ _)))))))),zU _ _⟩⟩
  ·have cq:=cq (by omega)
   have:=GW (jQ _ (by decide)) (jQ _ (by decide)) (A3 (SA h))
   omega
  ·show ("u" ++ cj "7" (p:Int):Str).length+1<=_
   omega
  ·rw [strLen_append]
   show ("u" ++ cj "7" (p:Int):Str).length+1+_<=_
   omega
 have S2:∀{k:Nat} {st s:aa} {X:Res Fl},Gw [Au c,Au k,At st.length,some (.str sg),none] s=X->AE [Au c,Au k,At st.length,some (.str sg),none] s=X:=λh=>zB (yD (yc (zp (zp (zf rfl) rfl (e4 _)) rfl (bq false (by simp;omega) _)))) h
 by_cases c2:c%4=2
 ·have ln:("n" : Str).length=1:=by decide +kernel
  have h9:c/4%900000<900000:=jQ _ (by decide)
  refine ⟨λk => "n" ++ kG (c/4%900000+k),λi j cq h=>?_,λk hk st=>⟨_,yg rfl (t_ (S1 (S2 (jV (yR (yc (zp (zp (zf rfl) rfl (e4 _)) rfl (bq true (by simp;omega) _))) (yn (zp rfl (zE (zL (zp (zp (zp (zf rfl) rfl (d4 _)) rfl (jM _ 900000 (by decide))) (zf rfl) (yZ _ _))) (GV _ (by omega) _)) (ad _ _ (by have:=GU (c/4%900000+k) (by omega);omega) _)))))))),zU _ _⟩⟩
  have:=GS (A3 h)
  omega
 ·have hg:∀k,(c/4+k)%20<m8.length:=λk=>jQ _ (by decide)
  refine ⟨λk=>m8[(c/4+k)%20]'(hg k),λi j cq h=>?_,λk hk st=>?_⟩
  ·have cq:=cq c2
   have:=AX Sz (hg i) (hg j) h
   omega
  let s1:=st++[SO.lst (t7.map PV.str)]
  let w5:Ad:=["kind", "same", "put", "field", "many"]
  let s2:=s1++[SO.lst (w5.map PV.str)]
  have A:ya (.ref st.length) (.ref s1.length) s2=.ok (.ref s2.length) (s2++[.lst (m8.map PV.str)]):=oP (xs:=t7.map PV.str) (ys:=w5.map PV.str) (zU _ _ _ _ (yj _ _)) (yj _ _) (by decide)
  have g:dh (m8.map PV.str) ((((c/4+k)%20:Nat)):Int)=some (.str (m8[(c/4+k)%20]'(hg k))):=a4 (by rw [yM,yx (hg k)];rfl)
  exact ⟨s2++[.lst (m8.map PV.str)],yg rfl (t_ (S1 (S2 (zB (yD (yc (zp (zp (zf rfl) rfl (e4 _)) rfl (bq false (by simp;omega) _)))) (yn (zp (zp (zf rfl) (jh (xs:=w5.map PV.str) rfl (by decide)) A) (zp (zp (zp (zf rfl) rfl (d4 _)) (zf rfl) (yZ _ _)) rfl (jM _ 20 (by decide))) (by rw [mL,yr (yj _ _),g];rfl))))))),(zU _ _).trans ((zU _ _).trans (zU _ _))⟩
noncomputable def wq (c:Int):Nat->Int×Str
 | 0=>(c,"")
 | i+1=>(jD (wq c i).1 5,(wq c i).2++⟨#[mY (yY (wq c i).1 26).toNat]⟩)
theorem GX (c:Int):∀i,(wq c i).2.length=i
 | 0=>Sk
 | i+1=>by
  show ((wq c i).2++_:Str).length=_
  rw [strLen_append,GX c i]
  rfl
theorem ua (c:Int):∃z,∀st,g8 [.int c] st=.ok (.str z) st:=by
 obtain ⟨n,hn,en⟩:=bz c 8 (by decide)
 have en:yY c 8=(n:Int):=en
 refine ⟨(wq c (1+n)).2,λst=>?_⟩
 obtain ⟨e',s',F,⟨z2,he⟩,hs⟩:=mZ (gt:=gN 2) (body:=(zw (zH 1 (ze ya (zc 1) (ze zv (As "abcdefghijklmnopqrstuvwxyz") (ze zV (zc 0) (Ar 26))))) (zH 0 (ze yO (zc 0) (Ar 5))))) (fs:=(zd (ze ya (Ar 1) (ze zV (zc 0) (Ar 8))) zo)) (e:=[some (.int c),some (.str ""),none]) (st:=st) (λi e s=>(∃z2,e=[some (.int (wq c i).1),some (.str (wq c i).2),z2])/\s=st) (1+n) (by omega) (zL (zp rfl (zp (zf rfl) rfl ((jj _ _ (by decide)).trans (by rw [en]))) (yZ 1 n))) (λi e s hi ⟨⟨z2,he⟩,hs⟩=>by
  subst he
  have hz:=GX c i
  obtain ⟨j,hj,ej⟩:=bz (wq c i).1 26 (by decide)
  have ej:yY (wq c i).1 26=(j:Int):=ej
  have L:=(Sh j hj s).1
  have e2:wq c (i+1)=(jD (wq c i).1 5,(wq c i).2++⟨#[mY j]⟩):=by
   show (_,_++(⟨#[mY (yY (wq c i).1 26).toNat]⟩:Str))=_
   rw [ej];rfl
  rw [e2]
  exact ⟨[some (.int (wq c i).1),some (.str (wq c i).2),Au i],_,s,rfl,zB (zN (zp (zf rfl) (zp rfl (zp (zf rfl) rfl ((jj _ _ (by decide)).trans (by rw [ej]))) L) (ad _ _ (show (wq c i).2.length+1<=_ by omega) _))) (zN (zp (zf rfl) rfl (wH _ _ (by decide) (by decide)))),⟨_,rfl⟩,hs⟩) ⟨⟨none,rfl⟩,rfl⟩
 subst he hs
 exact yg rfl (zB (zN rfl) (zB F (yn (zf rfl))))
def GY (st:aa):wZ (.int 10) (.int 24) st=.ok (.int 1000000000000000000000000) st:=by
 have cp:dC 10 24=true:=by decide
 have pw:((10:Int) ^ (24:Int).toNat)=1000000000000000000000000:=by decide
 show (if dC 10 24=true then Res.ok (PV.int (10 ^ (24:Int).toNat)) st else .stuck)=_
 rw [zF cp,pw]
theorem SD {fa fb fc fd:Ai}{e:zm}{st:aa}{a b:Str}{x y:PV}(ha:∀s,fa e s=.ok (.str a) s) (hx:∀s,fb e s=.ok x s) (hb:∀s,fc e s=.ok (.str b) s) (hy:∀s,fd e s=.ok y s):∃s1,qD [(fa,fb),(fc,fd)] e st=.ok (.ref st.length) s1/\Old st s1:=by
 have K:sW [(fa,fb),(fc,fd)] e (st++[SO.dic [] []])=.ok ([.str a,.str b],[x,y]) (st++[SO.dic [] []]):=by
  show (fa e _).bind _=_
  rw [ha,zG]
  simp only
  rw [hx,zG]
  show Res.bind ((fc e _).bind _) _=_
  rw [hb,zG]
  simp only
  rw [hy,zG]
  rfl
 have e1:kq (st++[SO.dic [] []])[st.length]?=true:=by rw [yj];rfl
 have D:qD [(fa,fb),(fc,fd)] e st=.ok (.ref st.length) ((st++[SO.dic [] []]).set st.length (.dic (ly (([a,b]:Ad).zip [x,y]) [] []).1 (ly (([a,b]:Ad).zip [x,y]) [] []).2)):=by
  unfold qD
  rw [K,zG]
  exact zF e1
 exact ⟨_,D,λn so h=>by rw [yo (by have:=yk h;omega)];exact zU _ _ _ _ h⟩
theorem SE (c:Int) (st:aa):∃v s1,AA [.int c] st=.ok v s1/\Old st s1:=by
 generalize ea:yY c 1000000000000000000000000=a
 have A:∀{X:Res Fl},Gp [some (.int a),some (.int (jD a 7))] st=X->Gq [some (.int c),none] st=X:=λh=>zB (zN (zp (zf rfl) (zp rfl rfl (GY _)) ((jj _ _ (by decide)).trans (by rw [ea])))) (zB (zN (zp (zf rfl) rfl (wH _ _ (by decide) (by decide)))) h)
 obtain ⟨w,hw,ew⟩:=bz a 7 (by decide)
 have ew:yY a 7=(w:Int):=ew
 generalize jD a 7=q at A
 have M7:∀s:aa,(ze zV (zc 0) (Ar 7)) [some (.int a),some (.int q)] s=.ok (.int (w:Int)) s:=λs=>zp (zf rfl) rfl ((jj _ _ (by decide)).trans (by rw [ew]))
 have md:∀(i:Int) (j:Int) (s:aa),j≠0->zV (.int i) (.int j) s=.ok (.int (yY i j)) s:=λi j s h=>jj i j h
 have T:∀(n:Int) (b:Bool) (s:aa),decide ((w:Int)=n)=b->(mB (ze ye (ze zV (zc 0) (Ar 7)) (Ar n))) [some (.int a),some (.int q)] s=.ok b s:=λn b s h=>yc (zp (M7 s) rfl (bq b h _))
 obtain ⟨z1,w1⟩:=ua q
 obtain ⟨z2,w2⟩:=ua (jD q 3+1)
 obtain ⟨z3,w3⟩:=ua (jD q 9)
 have sk:∀{g:Aj} {h:Aj} {n:Int} {X:Res Fl},(w:Int)≠n->h [some (.int a),some (.int q)] st=X->zw (zY (mB (ze ye (ze zV (zc 0) (Ar 7)) (Ar n))) g yd) h [some (.int a),some (.int q)] st=X:=λhn h=>zB (yD (T _ false _ (by simpa using hn))) h
 have tk:∀{f:Ai} {h:Aj} {n:Int} {v:PV} {s1:aa},(w:Int)=n->f [some (.int a),some (.int q)] st=.ok v s1->zw (zY (mB (ze ye (ze zV (zc 0) (Ar 7)) (Ar n))) (yb f) yd) h [some (.int a),some (.int q)] st=.ok (.rt v) s1:=λhn h=>jV (yR (T _ true _ (by simpa using hn)) (yn h))
 have SF:w=0\/w=1\/w=2\/w=3\/w=4\/w=5\/w=6:=by omega
 rcases SF with h|h|h|h|h|h|h
 ·exact ⟨_,st,yg rfl (A (tk (by omega) (zp (zf rfl) rfl (md _ _ _ (by decide))))),Old.refl _⟩
 ·exact ⟨_,st,yg rfl (A (sk (by omega) (tk (by omega) (zp (zp (zf rfl) rfl (md _ _ _ (by decide))) rfl (wG _ _))))),Old.refl _⟩
 ·exact ⟨_,st,yg rfl (A (sk (by omega) (sk (by omega) (tk (by omega) (zE (zL (zf rfl)) (w1 _)))))),Old.refl _⟩
 ·exact ⟨_,st,yg rfl (A (sk (by omega) (sk (by omega) (sk (by omega) (tk (by omega) (zX jt (by simp))))))),Old.refl _⟩
 ·exact ⟨_,st,yg rfl (A (sk (by omega) (sk (by omega) (sk (by omega) (sk (by omega) (tk (by omega) (zX (yL (zp (zf rfl) rfl (md _ _ _ (by decide))) (zX (zT (zE (zL (zf rfl)) (w1 _)) (zp rfl (zp (zf rfl) rfl (md _ _ _ (by decide))) (wG _ _))) (by simp)) (zX jt (by simp))) (by simp)))))))),Old.refl _⟩
 ·obtain ⟨s1,D,o⟩:=SD (fa:=(zu g8 (zd (zc 1) zo))) (fb:=(ze zV (zc 1) (Ar 5))) (fc:=(zu g8 (zd (ze ya (ze yO (zc 1) (Ar 3)) (Ar 1)) zo))) (fd:=(zC (zd (ze zV (zc 1) (Ar 3)) (zd (zu g8 (zd (ze yO (zc 1) (Ar 9)) zo)) zo)))) (e:=[some (.int a),some (.int q)]) (st:=st) (λs=>zE (zL (zf rfl)) (w1 s)) (λs=>zp (zf rfl) rfl (md _ _ _ (by decide))) (λs=>zE (zL (zp (zp (zf rfl) rfl (wH _ _ (by decide) (by decide))) rfl (qI _ _))) (w2 s)) (λs=>zX (zT (zp (zf rfl) rfl (md _ _ _ (by decide))) (zE (zL (zp (zf rfl) rfl (wH _ _ (by decide) (by decide)))) (w3 s))) (by simp))
  exact ⟨_,s1,yg rfl (A (sk (by omega) (sk (by omega) (sk (by omega) (sk (by omega) (sk (by omega) (tk (by omega) D))))))),o⟩
 ·exact ⟨_,st,yg rfl (A (sk (by omega) (sk (by omega) (sk (by omega) (sk (by omega) (sk (by omega) (sk (by omega) (yn (zp (zf rfl) rfl (md _ _ _ (by decide))))))))))),Old.refl _⟩
inductive cv (ks:Ad):PV->Prop
 | of (z:Str):z∈ks->cv ks (.tup [.str "of", .str z])
 | is (v:PV):cv ks (.tup [.str "is", v])
def cv.mono {ks bO:Ad}(h:∀z∈ks,z∈bO) {a:PV}(t:cv ks a):cv bO a:=by
 cases t with
 | of z hz=>exact .of z (h z hz)
 | is v=>exact .is v
theorem A5 (c:Int) (t:Nat) (ht:t<=900) {zs:Ad}(hz:zs.length<=900) {sc:Nat}{st:aa}(hs:st[sc]?=some (.lst (zs.map PV.str))):∃a s1,oJ [.int c,.int (t:Int),.ref sc] st=.ok a s1/\cv zs a/\Old st s1:=by
 obtain ⟨j,hj,ej⟩:=wU c t (zs.length+2) (by omega) (by omega) st
 have L:=w6 hs
 rw [yI] at L
 have A:∀{X:Res Fl},Gr [some (.int c),Au t,At sc,Au j] st=X->Gs [some (.int c),Au t,At sc,none] st=X:=λh=>zB (zN (zE (yL (zf rfl) (zf rfl) (zp (zE (zL (zf rfl)) L) rfl (yZ _ 2))) ej)) h
 by_cases h:j<zs.length
 ·have g:dh (zs.map PV.str) (j:Int)=some (.str (zs[j]'h)):=a4 (by rw [yM,yx h];rfl)
  exact ⟨.tup [.str "of", .str (zs[j]'h)],st,yg rfl (A (jV (yR (yc (zp (zf rfl) (zE (zL (zf rfl)) L) (kF true (by simp;omega) _))) (yn (zX (zT rfl (zp (zf rfl) (zf rfl) (by rw [mL,yr hs,g];rfl))) (by simp)))))),.of _ (wV h),Old.refl _⟩
 ·obtain ⟨b,hb,eb⟩:=bz c 1000000000000000000000000 (by decide)
  have eb:yY c 1000000000000000000000000=(b:Int):=eb
  obtain ⟨v,s1,ev,o⟩:=SE ((b*(t+1)+t:Nat):Int) st
  exact ⟨.tup [.str "is", v],s1,yg rfl (A (zB (yD (yc (zp (zf rfl) (zE (zL (zf rfl)) L) (kF false (by simp;omega) _)))) (yn (zX (zT rfl (zE (zL (zp (zp (zp (zf rfl) (zp rfl rfl (GY _)) ((jj _ _ (by decide)).trans (by rw [eb]))) (zp (zf rfl) rfl (yZ t 1)) (fX b (t+1) (.inr (by omega)))) (zf rfl) (yZ _ t))) ev)) (by simp))))),.is v,o⟩
theorem oR (c:Int) (m:Nat) (hm:m<=100) {zs:Ad}(hz:zs.length<=900) {sc:Nat}{st:aa}(hs:st[sc]?=some (.lst (zs.map PV.str))):∃as s1,ky [.int c,.int (m:Int),.ref sc] st=.ok (.tup as) s1/\as.length=m/\(∀a∈as,cv zs a)/\Old st s1:=by
 obtain ⟨ys,s1,C,⟨q1,q2⟩,q3⟩:=AW (fe:=(zu oJ (zd (zc 1) (zd (ze ya (Ar 4) (zc 0)) (zd (zc 3) zo))))) (fs:=(zd (zc 1) zo)) (env:=[some (.int c),Au m,At sc]) (st:=st) m (by omega) (zL (zf rfl)) (λi ys s=>(ys.length=i/\∀a∈ys,cv zs a)/\Old st s) (λi ys s hi ⟨⟨h1,h2⟩,h3⟩=>by
  obtain ⟨a,s1,e,ha,o⟩:=A5 c (4+i) (by omega) hz (h3 _ _ hs)
  refine ⟨a,s1,zE (yL (zf rfl) (zp rfl (zf rfl) (yZ 4 i)) (zf rfl)) e,⟨by simp [h1],λb hb=>?_⟩,h3.trans o⟩
  rcases wu.mp hb with q|q
  ·exact h2 b q
  ·rw [jN.mp q];exact ha) ⟨⟨rfl,(λ_ h=>nomatch h)⟩,Old.refl _⟩
 exact ⟨ys,s1++[.lst ys],yg rfl (yn (zE (zL C) (by rw [wm,yr (yj _ _)]))),q1,q2,q3.trans (zU _ _)⟩
noncomputable def fZ:List (Str×Nat):=[("down", 1),("head", 1),("rest", 1),("item", 2),("field", 2),("add", 2),("sub", 2),("mul", 2),("div", 2),("rem", 2),("less", 2),("same", 2),("kind", 1),("front", 2),("many", 1),("put", 3),("set", 3)]
noncomputable abbrev c_ (l:List (Str×Nat)):An:=l.map λh=>.tup [.str h.1,.int (h.2:Int)]
theorem A6:∀h∈fZ,1<=h.2/\h.2<=3:=by decide +kernel
theorem SG (k:Nat) (hk:k<100) (st:aa):∃h s1,h∈fZ/\AB [.int (k:Int)] st=.ok (.tup [.str h.1,.int (h.2:Int)]) s1/\Old st s1:=by
 let a:=c_ [("down", 1),("head", 1),("rest", 1),("item", 2),("field", 2),("add", 2),("sub", 2),("mul", 2)]
 let b:=c_ [("div", 2),("rem", 2),("less", 2),("same", 2),("kind", 1),("front", 2),("many", 1)]
 let d:=c_ [("put", 3),("set", 3)]
 let s1:=st++[SO.lst a]
 let s2:=s1++[SO.lst b]
 let s3:=s2++[SO.lst (a++b)]
 let s4:=s3++[SO.lst d]
 let s5:=s4++[SO.lst (c_ fZ)]
 have A1:ya (.ref st.length) (.ref s1.length) s2=.ok (.ref s2.length) s3:=oP (xs:=a) (ys:=b) (zU _ _ _ _ (yj _ _)) (yj _ _) (by decide)
 have A2:ya (.ref s2.length) (.ref s3.length) s4=.ok (.ref s4.length) s5:=oP (xs:=a++b) (ys:=d) (zU _ _ _ _ (yj _ _)) (yj _ _) (by decide)
 have top:s5[s4.length]?=some (.lst (c_ fZ)):=yj _ _
 have ix:∀(i:Nat) (hi:i<fZ.length),zv (.ref s4.length) (.int (i:Int)) s5=.ok (.tup [.str (fZ[i]'hi).1,.int ((fZ[i]'hi).2:Int)]) s5:=λi hi=>by
  rw [mL,yr top,a4 (x:=PV.tup [.str (fZ[i]'hi).1,.int ((fZ[i]'hi).2:Int)]) (by rw [yM,yx hi];rfl)]
  rfl
 have L:yS [.ref s4.length] s5=.ok (.int 17) s5:=w6 top
 have P:∀{X:Res Fl},Gu [Au k,At s4.length] s5=X->Gv [Au k,none] st=X:=λh=>zB (zN (jh (xs:=a) rfl (by decide))) (zB (zN (zp (zf rfl) (jh (xs:=b) rfl (by decide)) A1)) (zB (zN (zp (zf rfl) (jh (xs:=d) rfl (by decide)) A2)) h))
 have oo:Old st s5:=(zU _ _).trans ((zU _ _).trans ((zU _ _).trans ((zU _ _).trans (zU _ _))))
 by_cases h:k<17
 ·exact ⟨_,s5,wV (show k<fZ.length from h),yg rfl (P (jV (yR (yc (zp (zf rfl) (zE (zL (zf rfl)) L) (kF true (by simp;omega) _))) (yn (zp (zf rfl) (zf rfl) (ix k h)))))),oo⟩
 ·have h5:k%5<fZ.length:=jO (jQ _ (by decide)) (by decide)
  exact ⟨_,s5,wV h5,yg rfl (P (zB (yD (yc (zp (zf rfl) (zE (zL (zf rfl)) L) (kF false (by simp;omega) _)))) (yn (zp (zf rfl) (zp (zf rfl) rfl (jM k 5 (by decide))) (ix _ h5))))),oo⟩
inductive cL (hs:List (Str×Nat)) (ks:Ad) (z:Str):PV->Prop
 | let_ (o:Str) (n:Nat) (as:An):(o,n)∈fZ->as.length=n->(∀a∈as,cv ks a)->cL hs ks z (.tup [.str "let", .str z,.str o,.tup as])
 | call (f:Str) (as:An):(f,as.length)∈hs->(∀a∈as,cv ks a)->cL hs ks z (.tup [.str "call", .str z,.str f,.tup as])
structure Hs (hs:List (Str×Nat)):Prop where
 pos:0<hs.length
 few:∀h∈hs,h.2<=6
def A7 {hs:List (Str×Nat)}{s:aa}{hd i:Nat}(hh:s[hd]?=some (.lst (c_ hs))) (hi:i<hs.length):zv (.ref hd) (.int (i:Int)) s=.ok (.tup [.str (hs[i]'hi).1,.int ((hs[i]'hi).2:Int)]) s:=by
 rw [mL,yr hh,a4 (x:=PV.tup [.str (hs[i]'hi).1,.int ((hs[i]'hi).2:Int)]) (by rw [yM,yx hi];rfl)]
 rfl
theorem A8 (c:Int) (z:Str) {zs:Ad}(hz:zs.length<=900) {hs:List (Str×Nat)}(H:Hs hs) {sc hd:Nat}{st:aa}(h1:st[sc]?=some (.lst (zs.map PV.str))) (h2:st[hd]?=some (.lst (c_ hs))):∃v s1,lD [.int c,.str z,.ref sc,.ref hd] st=.ok v s1/\cL hs zs z v/\Old st s1:=by
 obtain ⟨j,hj,ej⟩:=wU c 2 5 (by decide) (by decide) st
 by_cases h:j=0
 ·subst h
  obtain ⟨i,hi,ei⟩:=wU c 3 hs.length (by decide) H.pos st
  have L:=w6 h2
  rw [yI] at L
  obtain ⟨as,s1,ea,hl,ha,o⟩:=oR c (hs[i]'hi).2 (by have:=H.few _ (wV hi);omega) hz h1
  exact ⟨_,s1,yg rfl (jV (yR (yc (zp (zE (yL (zf rfl) rfl rfl) ej) rfl (bq true (by simp) _))) (zB (zN (zp (zf rfl) (zE (yL (zf rfl) rfl (zE (zL (zf rfl)) L)) ei) (A7 h2 hi))) (yn (zX (wo rfl (zf rfl) (zp (zf rfl) rfl yN) (zE (yL (zf rfl) (zp (zf rfl) rfl js) (zf rfl)) ea)) (by simp)))))),.call _ as (by rw [hl];exact wV hi) ha,o⟩
 ·obtain ⟨i,hi,ei⟩:=wU c 1 29 (by decide) (by decide) st
  obtain ⟨⟨o,n⟩,s1,ho,eo,o1⟩:=SG i (by omega) st
  have fw:=A6 _ ho
  obtain ⟨as,s2,ea,hl,ha,o2⟩:=oR c n (by simp at fw;omega) hz (o1 _ _ h1)
  exact ⟨_,s2,yg rfl (zB (yD (yc (zp (zE (yL (zf rfl) rfl rfl) ej) rfl (bq false (by simp;omega) _)))) (zB (zN (zE (zL (zE (yL (zf rfl) rfl rfl) ei)) eo)) (yn (zX (wo rfl (zf rfl) (zp (zf rfl) rfl yN) (zE (yL (zf rfl) (zp (zf rfl) rfl js) (zf rfl)) ea)) (by simp))))),.let_ o n as ho hl ha,o1.trans o2⟩
def nP (v:PV):Prop:=∃w r,v=.tup (.str w::r)/\w ≠ "let" /\ w ≠ "call" /\ w ≠ "if"
inductive dW (hs:List (Str×Nat)) (ks:Ad):PV->Prop
 | give (a:PV):cv ks a->dW hs ks (.tup [.str "give", a])
 | fail (w:Str):dW hs ks (.tup [.str "fail", .str w])
 | go (f:Str) (as:An):(f,as.length)∈hs->(∀a∈as,cv ks a)->dW hs ks (.tup [.str "go", .str f,.tup as])
 | if_ (a v1 v2:PV):cv ks a->dW hs ks (.tup [.str "if", a,v1,v2])
theorem m1:("give" : Str) ≠ "if" := by decide +kernel
theorem m2:("fail" : Str) ≠ "if" := by decide +kernel
theorem m3:("go" : Str) ≠ "if" := by decide +kernel
theorem SH (c:Int) (w:Nat) {zs:Ad}(hz:zs.length<=900) {hs:List (Str×Nat)}(H:Hs hs) {sc hd:Nat}{st:aa}(h1:st[sc]?=some (.lst (zs.map PV.str))) (h2:st[hd]?=some (.lst (c_ hs))):∃v s1,AI [.int c,.int (w:Int),.ref sc,.ref hd] st=.ok v s1/\nP v/\dW hs zs v/\Old st s1:=by
 by_cases c3:w=3
 ·obtain ⟨a,s1,ea,ha,o⟩:=A5 c 13 (by decide) hz h1
  exact ⟨_,s1,yg rfl (jV (yR (yc (zp (zf rfl) rfl (bq true (by simp;omega) _))) (yn (zX (zT rfl (zE (yL (zf rfl) rfl (zf rfl)) ea)) (by simp))))),⟨_,_,rfl,tY,n3,m1⟩,.give _ ha,o⟩
 by_cases c4:w=4
 ·obtain ⟨z,ez⟩:=ua (yY c 1000000000)
  exact ⟨_,st,yg rfl (zB (yD (yc (zp (zf rfl) rfl (bq false (by simp;omega) _)))) (jV (yR (yc (zp (zf rfl) rfl (bq true (by simp;omega) _))) (yn (zX (zT rfl (zE (zL (zp (zf rfl) (zp rfl rfl (GO _)) (jj _ _ (by decide)))) (ez _))) (by simp)))))),⟨_,_,rfl,AY,n5,m2⟩,.fail _,Old.refl _⟩
 ·obtain ⟨i,hi,ei⟩:=wU c 14 hs.length (by decide) H.pos st
  have L:=w6 h2
  rw [yI] at L
  obtain ⟨as,s1,ea,hl,ha,o⟩:=oR c (hs[i]'hi).2 (by have:=H.few _ (wV hi);omega) hz h1
  exact ⟨_,s1,yg rfl (zB (yD (yc (zp (zf rfl) rfl (bq false (by simp;omega) _)))) (zB (yD (yc (zp (zf rfl) rfl (bq false (by simp;omega) _)))) (zB (zN (zp (zf rfl) (zE (yL (zf rfl) rfl (zE (zL (zf rfl)) L)) ei) (A7 h2 hi))) (yn (zX (yL rfl (zp (zf rfl) rfl yN) (zE (yL (zf rfl) (zp (zf rfl) rfl js) (zf rfl)) ea)) (by simp)))))),⟨_,_,rfl,tZ,n7,m3⟩,.go _ as (by rw [hl];exact wV hi) ha,o⟩
inductive Bk:PV->List PV->Nat->Prop
 | leaf (ss:An) (e:PV):nP e->Bk (.tup [.tup ss,e]) (ss++[e]) 0
 | node (ss:An) (va v1 v2:PV) (l1 l2:An) (d1 d2:Nat):Bk v1 l1 d1->Bk v2 l2 d2->Bk (.tup [.tup ss,.tup [.str "if", va,v1,v2]]) (ss++[.tup [.str "if", va,v1,v2]]++l1++l2) (1+max d1 d2)
def nQ (e:PV):Prop:=∃w r,e=.tup (.str w::r)/\w ≠ "let" /\ w ≠ "call"
def uc {hs:List (Str×Nat)}{ks:Ad}{e:PV}(h:dW hs ks e):nQ e:=by
 cases h with
 | give a=>exact ⟨_,_,rfl,tY,n3⟩
 | fail w=>exact ⟨_,_,rfl,AY,n5⟩
 | go f as=>exact ⟨_,_,rfl,tZ,n7⟩
 | if_ a v1 v2=>exact ⟨_,_,rfl,GP,n8⟩
inductive cb (hs:List (Str×Nat)):List Str->List PV->List Str->Prop
 | nil (ks:Ad):cb hs ks [] []
 | stp (ks:Ad) (z:Str) (s:PV) (ls:An) (zs:Ad):cL hs ks z s->cb hs (ks++[z]) ls zs->cb hs ks (s::ls) (z::zs)
 | fin (ks:Ad) (e:PV) (ls:An) (zs:Ad):dW hs ks e->cb hs ks ls zs->cb hs ks (e::ls) zs
def cL.mono {hs:List (Str×Nat)}{ks bO:Ad}(h:∀z∈ks,z∈bO) {z:Str}{s:PV}(t:cL hs ks z s):cL hs bO z s:=by
 cases t with
 | let_ o n as h1 h2 h3=>exact .let_ o n as h1 h2 λa ha=>(h3 a ha).mono h
 | call f as h2 h3=>exact .call f as h2 λa ha=>(h3 a ha).mono h
def dW.mono {hs:List (Str×Nat)}{ks bO:Ad}(h:∀z∈ks,z∈bO) {s:PV}(t:dW hs ks s):dW hs bO s:=by
 cases t with
 | give a h1=>exact .give a (h1.mono h)
 | fail w=>exact .fail w
 | go f as h2 h3=>exact .go f as h2 λa ha=>(h3 a ha).mono h
 | if_ a v1 v2 h1=>exact .if_ a v1 v2 (h1.mono h)
def cb.mono {hs:List (Str×Nat)}{ks:Ad}{ls:An}{zs:Ad}(t:cb hs ks ls zs):∀{bO:Ad},(∀z∈ks,z∈bO)->cb hs bO ls zs:=by
 induction t with
 | nil ks=>intro bO _;exact .nil bO
 | stp ks z s ls zs hs _ ih =>
  intro bO h
  refine .stp bO z s ls zs (hs.mono h) (ih λy hy=>?_)
  rcases wu.mp hy with q|q
  ·exact gh _ (h y q)
  ·exact jn _ q
 | fin ks e ls zs he _ ih=>intro bO h;exact .fin bO e ls zs (he.mono h) (ih h)
def cb.app {hs:List (Str×Nat)}{ks:Ad}{l1 l2:An}{z1 z2:Ad}(t:cb hs ks l1 z1):cb hs (ks++z1) l2 z2->cb hs ks (l1++l2) (z1++z2):=by
 induction t with
 | nil ks=>intro h;simpa using h
 | stp ks z s ls zs hs _ ih=>intro h;exact .stp ks z s _ _ hs (ih (by simpa using h))
 | fin ks e ls zs he _ ih=>intro h;exact .fin ks e _ _ he (ih h)
def cb.snoc {hs:List (Str×Nat)}{ks:Ad}{ls:An}{zs:Ad}(t:cb hs ks ls zs) {z:Str}{s:PV}(h:cL hs (ks++zs) z s):cb hs ks (ls++[s]) (zs++[z]):=t.app (.stp _ z s [] [] h (.nil _))
def sub (b b':Nat):Prop:=b'=b\/b'/2=b\/b'/4=b
noncomputable abbrev bB:Aj:=(zw (zH 10 (zu wy (zd (zc 5) (zd (ze ya (ze ya (Ar 4) (ze jq (Ar 2) (zc 2))) (zc 9)) zo))))
  (zw (yK (yF yJ (zc 8) (zu lD (zd (zu jr (zd (zc 0) (zd (ze ya (zc 6) (zc 9)) zo))) (zd (zc 10) (zd (zc 3) (zd (zc 4) zo)))))))
  (yK (yF yJ (zc 3) (zc 10)))))
noncomputable abbrev eB (ns:List Int) (f b sc hd c a:Nat) (x:Int) (t:Nat) (z9 z10 z11:Ao):zm:=[some (.frl (ns.map PV.int)),Au f,Au b,At sc,At hd,Au c,Au a,some (.int x),At t,z9,z10,z11,none,none]
def GZ {dR:Nat}{xs:An}{st:aa}{X:Res PV}(h:AJ (kC dR) xs st=X):kC (dR+1) xs st=X:=h
theorem G0 {s1 s2:aa}{t sc a0:Nat}{ss:An}{zs:Ad}{v:PV}{z:Str}(h1:s2[t]?=some (.lst ss)) (h2:s2[sc]?=some (.lst (zs.map PV.str))) (ne:t≠sc) (l1:ss.length<=1000) (l2:zs.length<=1000) (o:∀(m:Nat) so,m<a0->s1[m]?=some so->s2[m]?=some so) (ta:a0<=t) (sa:a0<=sc) :
  ∃s3 s4,yJ (.ref t) v s2=.ok .non s3/\s3[sc]?=some (.lst (zs.map PV.str))/\yJ (.ref sc) (.str z) s3=.ok .non s4/\s4[t]?=some (.lst (ss++[v]))/\s4[sc]?=some (.lst ((zs++[z]).map PV.str))/\∀(m:Nat) so,m<a0->s1[m]?=some so->s4[m]?=some so:=by
 have A1:=wz (y:=v) h1 (by omega)
 have h3:(s2.set t (.lst (ss++[v])))[sc]?=some (.lst (zs.map PV.str)):=by rw [yo ne];exact h2
 have A2:=wz (y:=.str z) h3 (by simp;omega)
 refine ⟨_,_,A1,h3,A2,?_,?_,λm so hm e=>?_⟩
 ·rw [yo (yT ne),je (yk h1)]
 ·rw [je (yk h3),ju];rfl
 ·rw [yo (by omega),yo (by omega)]
  exact o m so hm e
theorem SI {seed:Nat}{nm:Nat->Str}(M:Nm seed nm) {hs:List (Str×Nat)}(H:Hs hs) (ns:List Int) (f:Nat) (hf:f<=10):∀(dR b:Nat),1<=b->b<=7->(b<2->2<dR)->(b<4->1<dR)->0<dR->∀(zs:Ad) (sc hd:Nat) (st:aa),zs.length<=800+2*b->st[sc]?=some (.lst (zs.map PV.str))->st[hd]?=some (.lst (c_ hs)) ->
  ∃v s1 ls dd,∃is:List Nat,kC dR [.frl (ns.map PV.int),.int (f:Int),.int (b:Int),.ref sc,.ref hd,.int (seed:Int)] st=.ok v s1/\Old st s1/\Bk v ls dd/\dd<=2/\(4<=b->dd=0)/\(2<=b->dd<=1)/\ls.length<=21/\(2<=b->ls.length<=9)/\(4<=b->ls.length<=3)/\cb hs zs ls (is.map nm)/\is.Nodup/\∀i∈is,6<=i/\i<20/\sub b ((i-4)/2):=by
 intro dR
 induction dR with
 | zero=>intro b _ _ _ _ h;omega
 | succ dR ih =>
  intro b hb1 Wx hl2 Wy _ zs sc hd st SJ SK SN
  let a:Nat:=6+(b-1)*9+f*3
  have ha:a<=200:=by show 6+(b-1)*9+f*3<=200;omega
  have b1:(b:Int)-1=((b-1:Nat):Int):=by omega
  obtain ⟨x,s1,e1,o1⟩:=iO ns (a+2) (by omega) st
  let s2:=s1++[SO.lst (zs.map PV.str)]
  let s3:=s2++[SO.lst []]
  have LS:gQ [.ref sc] s1=.ok (.ref s1.length) s2:=Sr (o1 _ _ SK)
  have l2:s2.length=s1.length+1:=by simp [s2]
  obtain ⟨m,hm,em⟩:=wU x 11 3 (by decide) (by decide) s3
  have G1:s3[s1.length]?=some (.lst (zs.map PV.str)):=zU _ _ _ _ (yj _ _)
  have qx:s3[s2.length]?=some (.lst []):=yj _ _
  have A9:=o1 _ _ SN
  have iC:=yk A9
  let own:Nat->List Nat:=λi=>(List.range i).map λj=>4+2*b+j
  have uU:∀i,own (i+1)=own i++[4+2*b+i]:=λi=>by simp [own,o_]
  have nR:∀i,(own i).length=i:=λi=>by simp [own]
  obtain ⟨e',s4,F,⟨z9,z10,he⟩,ob,hI,ss,qV,cI⟩:=mZ (gt:=gN 9) (body:=bB) (fs:=(zd (zu jG (zd (zc 7) (zd (Ar 11) (zd (Ar 3) zo)))) zo)) (e:=eB ns f b s1.length hd seed a x s2.length none none none) (st:=s3) (λi e s=>(∃z9 z10,e=eB ns f b s1.length hd seed a x s2.length z9 z10 none)/\(∀(k:Nat) so,k<s1.length->s1[k]?=some so->s[k]?=some so)/\s[s1.length]?=some (.lst ((zs++(own i).map nm).map PV.str))/\∃ss,s[s2.length]?=some (.lst ss)/\cb hs zs ss ((own i).map nm)/\ss.length=i) m (by omega) (zL (zE (yL (zf rfl) rfl rfl) em)) (λi e s hi ⟨⟨z9,z10,he⟩,ob,hI,ss,qV,cI,qW⟩=>by
   subst he
   obtain ⟨t1,f1,g1⟩:=M.at_ (4+2*b+i) (by omega) s
   obtain ⟨y,t2,f2,g2⟩:=iO ns (a+i) (by omega) t1
   have zl:(zs++(own i).map nm).length<=900:=by simp [nR];omega
   have oo:=g1.trans g2
   obtain ⟨v,t3,f3,hv,g3⟩:=A8 y (nm (4+2*b+i)) zl H (oo _ _ hI) (oo _ _ (ob _ _ iC A9))
   have o3:=oo.trans g3
   obtain ⟨t4,t5,A1,k1,A2,k2,k3,k4⟩:=G0 (s1:=s1) (a0:=s1.length) (v:=v) (z:=nm (4+2*b+i)) (o3 _ _ qV) (o3 _ _ hI) (by omega) (by omega) (by omega) (λk so hk e=>o3 _ _ (ob k so hk e)) (by omega) (ym _)
   refine ⟨eB ns f b s1.length hd seed a x s2.length (Au i) z10 none,_,t5,rfl,zB (zN (zE (zT (zf rfl) (zp (zp rfl (zp rfl (zf rfl) (fX 2 b (.inl (by decide)))) (yZ 4 _)) (zf rfl) (yZ _ i))) f1)) (zB (jW (jL (zf rfl) (g1 _ _ qV) (zE (wo (zE (zT (zf rfl) (zp (zf rfl) (zf rfl) (yZ a i))) f2) (zf rfl) (zf rfl) (zf rfl)) f3) A1)) (jW (jL (zf rfl) k1 (zf rfl) A2))),⟨_,_,rfl⟩,k4,?_,ss++[v],k2,?_,by simp [qW]⟩
   ·rw [show zs++(own (i+1)).map nm=(zs++(own i).map nm)++[nm (4+2*b+i)] by rw [uU];simp];exact k3
   ·rw [uU,ju];exact cI.snoc hv) ⟨⟨none,none,rfl⟩,λk so hk e=>zU _ _ _ _ (zU _ _ _ _ e),by simpa [own] using G1,[],qx,.nil _,rfl⟩
  subst he
  obtain ⟨cI,qW⟩:=cI
  obtain ⟨w,hw,ew⟩:=wU x 12 7 (by decide) (by decide) s4
  have qX:=ob _ _ iC A9
  have o4:Old st s4:=λk so e=>ob k so (yk (o1 _ _ e)) (o1 _ _ e)
  have zl:(zs++(own m).map nm).length<=900:=by simp [nR];omega
  have G:∀{X:Res Fl},Gy (kC dR) (eB ns f b s1.length hd seed a x s2.length z9 z10 (Au w)) s4=X->Gz (kC dR) [some (.frl (ns.map PV.int)),Au f,Au b,At sc,At hd,Au seed,none,none,none,none,none,none,none,none] st=X:=λh=>zB (zN (zp (zp rfl (zp (zp (zf rfl) rfl ((wG _ _).trans (by rw [b1]))) rfl (fX _ 9 (.inr (by decide)))) (yZ 6 _)) (zp (zf rfl) rfl (fX f 3 (.inr (by decide)))) (yZ _ _))) (zB (zN (zE (zT (zf rfl) (zp (zf rfl) rfl (yZ a 2))) e1)) (zB (zN (zE (zL (zf rfl)) LS)) (zB (zN (jh jt (by simp))) (zB F (zB (zN (zE (yL (zf rfl) rfl rfl) ew)) h)))))
  have uV:(own m).Nodup:=by
   refine List.pairwise_iff_getElem.mpr λi j hi hj cq e=>?_
   simp only [own,List.getElem_map,List.getElem_range] at e
   omega
  have qY:∀i∈own m,6<=i/\i<20/\(i-4)/2=b:=λi hi=>by
   obtain ⟨j,hj,rfl⟩:=jv.mp hi
   have:=gj.mp hj
   omega
  by_cases c1:4<w/\b<4
  ·have b2:((2*b:Nat):Int)+1=((2*b+1:Nat):Int):=by omega
   obtain ⟨v1,s5,l1,d1,i1,e5,o5,B1,q1,q2,q3,q4,q5,q6,N1,SQ,in1⟩:=ih (2*b) (by omega) (by omega) (by omega) (by omega) (by omega) (zs++(own m).map nm) s1.length hd s4 (by simp [nR];omega) hI qX
   obtain ⟨v2,s6,G3,d2,i2,e6,o6,B2,p1,p2,p3,p4,p5,p6,N2,A_,oQ⟩:=ih (2*b+1) (by omega) (by omega) (by omega) (by omega) (by omega) (zs++(own m).map nm) s1.length hd s5 (by simp [nR];omega) (o5 _ _ hI) (o5 _ _ qX)
   have Ba:=o5.trans o6
   have tu:jx [.ref s2.length] s6=.ok (.tup ss) s6:=by rw [wm,yr (Ba _ _ qV)]
   obtain ⟨va,s7,e7,SR,o7⟩:=A5 x 13 (by decide) zl (Ba _ _ hI)
   refine ⟨_,s7,_,_,own m++(i1++i2),GZ (yg rfl (G (jV (yR (xT (yc (zp (zf rfl) rfl (lI true (by simp;omega) _))) (yc (zp (zf rfl) rfl (kF true (by simp;omega) _)))) (zB (zN (zE (wQ (zf rfl) (wQ (zf rfl) (wQ (zp rfl (zf rfl) (fX 2 b (.inl (by decide)))) (yL (zf rfl) (zf rfl) (zf rfl))))) e5)) (zB (zN (zE (wQ (zf rfl) (wQ (zf rfl) (wQ (zp (zp rfl (zf rfl) (fX 2 b (.inl (by decide)))) rfl ((qI _ _).trans (by rw [b2]))) (yL (zf rfl) (zf rfl) (zf rfl))))) e6)) (yn (zX (zT (zE (zL (zf rfl)) tu) (zX (wo rfl (zE (yL (zf rfl) rfl (zf rfl)) e7) (zf rfl) (zf rfl)) (by simp))) (by simp))))))))),o4.trans (Ba.trans o7),.node ss va v1 v2 l1 G3 d1 d2 B1 B2,by omega,by omega,by omega,by simp;omega,by simp;omega,by omega,?_,?_,?_⟩
   ·have h2:cb hs (zs++(own m).map nm) ([.tup [.str "if", va,v1,v2]]++(l1++G3)) (i1.map nm++i2.map nm):=.fin _ _ _ _ (.if_ _ _ _ SR) (N1.app (N2.mono λz hz=>gh _ hz))
    rw [ju,ju,kK,kK]
    exact cI.app h2
   ·rw [List.nodup_append,List.nodup_append]
    refine ⟨uV,⟨SQ,A_,λi hi j hj e=>?_⟩,λi hi j hj e=>?_⟩
    ·subst e
     have a1:=(in1 i hi).2.2
     have a2:=(oQ i hj).2.2
     unfold sub at a1 a2
     omega
    ·subst e
     have a0:=qY i hi
     rcases wu.mp hj with q|q
     ·have a1:=(in1 i q).2.2
      unfold sub at a1
      omega
     ·have a1:=(oQ i q).2.2
      unfold sub at a1
      omega
   ·intro i hi
    rcases wu.mp hi with q|q
    ·have:=qY i q
     exact ⟨this.1,this.2.1,.inl this.2.2⟩
    ·rcases wu.mp q with q|q
     ·have a1:=in1 i q
      refine ⟨a1.1,a1.2.1,?_⟩
      have a2:=a1.2.2
      unfold sub at a2 ⊢
      omega
     ·have a1:=oQ i q
      refine ⟨a1.1,a1.2.1,?_⟩
      have a2:=a1.2.2
      unfold sub at a2 ⊢
      omega
  ·have tu:jx [.ref s2.length] s4=.ok (.tup ss) s4:=by rw [wm,yr qV]
   obtain ⟨v,s5,e5,hv,SS,o5⟩:=SH x w zl H hI qX
   have TT:(ki (mB (ze iE (zc 11) (Ar 4))) (mB (ze oLt (zc 2) (Ar 4)))) (eB ns f b s1.length hd seed a x s2.length z9 z10 (Au w)) s4=.ok false s4:=by
    by_cases q:4<w
    ·exact xT (yc (zp (zf rfl) rfl (lI true (by simp;omega) _))) (yc (zp (zf rfl) rfl (kF false (by simp;omega) _)))
    ·exact Fp (yc (zp (zf rfl) rfl (lI false (by simp;omega) _)))
   refine ⟨_,s5,_,_,own m,GZ (yg rfl (G (zB (yD TT) (yn (zX (zT (zE (zL (zf rfl)) tu) (zE (wo (zf rfl) (zf rfl) (zf rfl) (zf rfl)) e5)) (by simp)))))),o4.trans o5,.leaf ss v hv,by omega,by omega,by omega,by simp;omega,by simp;omega,by simp;omega,?_,uV,λi hi=>?_⟩
   ·have:=cI.app (l2:=[v]) (z2:=[]) (.fin _ _ _ _ SS (.nil _))
    simpa using this
   ·have:=qY i hi
    exact ⟨this.1,this.2.1,.inl this.2.2⟩
structure Fn (hs:List (Str×Nat)) (f:PV) (nz:Str) (ps zs:Ad) (ls:An) (dd:Nat):Prop where
 ex:∃bv,f=.tup [.str nz,.tup (ps.map PV.str),bv]/\Bk bv ls dd
 ln:cb hs ps ls zs
 nd:(ps++zs).Nodup
 dp:dd<=8
 nl:ls.length<=100
 np:ps.length<=6
def fV (hs:List (Str×Nat)) (h:Str×Nat) (f:PV):Prop:=∃ps zs ls dd,Fn hs f h.1 ps zs ls dd/\ps.length=h.2
structure m9 (hs:List (Str×Nat)) (fs:An):Prop where
 ok:Hs hs
 len:fs.length=hs.length
 few:hs.length<=200
 nd:(hs.map (·.1)).Nodup
 fn:∀(i:Nat) h f,hs[i]?=some h->fs[i]?=some f->fV hs h f
def G4 {fo fi fv:Ai}{e:zm}{s s1:aa}{n i:Nat}{x:PV}{xs:An}(hv:fv e s=.ok x s1) (ho:fo e s1=.ok (.ref n) s1) (hi:fi e s1=.ok (.int (i:Int)) s1) (h:s1[n]?=some (.lst xs)) (hl:i<xs.length):mP fo fi fv e s=.ok (.nx e) (s1.set n (.lst (xs.set i x))):=by
 unfold mP
 rw [hv,zG,ho,zG,hi,zG]
 show (yi s1 n _).bind _=_
 rw [yr h,zF hl,zG]
theorem G5 {g:PV->zm->Option zm}{body:Aj}{n:Nat}(xs:An) (I:Nat->zm->aa->Prop) (at_:∀i e st,I i e st->st[n]?=some (.lst xs)) (step:∀(i:Nat) x e st,xs[i]?=some x->I i e st->∃e1 e2 ay,g (.tup [.int (i:Int),x]) e=some e1/\body e1 st=.ok (.nx e2) ay/\I (i+1) e2 ay) :
  ∀(k i m:Nat) (env:zm) (st:aa),i+k=xs.length->k<m->I i env st->∃bp bu,d8 g body n m i env st=.ok (.nx bp) bu/\I xs.length bp bu
 | 0,i,m,env,st,hk,hm,h=>by
  obtain ⟨m,rfl⟩:∃j,m=j+1:=⟨m-1,by omega⟩
  refine ⟨env,st,?_,by rw [<-hk];exact h⟩
  unfold d8
  rw [yr (at_ _ _ _ h),pd (by omega)]
 | k+1,i,m,env,st,hk,hm,h=>by
  obtain ⟨m,rfl⟩:∃j,m=j+1:=⟨m-1,by omega⟩
  have hx:xs[i]?=some (xs[i]'(by omega)):=yx (by omega)
  obtain ⟨e1,e2,ay,q1,q2,q3⟩:=step i _ env st hx h
  obtain ⟨bp,bu,r,h2⟩:=G5 xs I at_ step k (i+1) m e2 ay (by omega) (by omega) q3
  refine ⟨bp,bu,?_,h2⟩
  unfold d8
  rw [yr (at_ _ _ _ h),hx]
  simp only
  rw [q1]
  simp only
  rw [q2]
  simp only [zG]
  exact r
def qZ (ns:List Int) (k:Nat) (h9:k<1000) (st:aa):∃(c:Nat) (s1:aa),c<1000000000/\Old st s1/\∀e:zm,e[0]?=some (some (.frl (ns.map PV.int)))->(ze zV (zu jr (zd (zc 0) (zd (Ar (k:Int)) zo))) (ze wZ (Ar 10) (Ar 9))) e st=.ok (.int (c:Int)) s1:=by
 obtain ⟨x,s1,e1,o⟩:=iO ns k h9 st
 obtain ⟨c,hc,ec⟩:=bz x 1000000000 (by decide)
 have ec:yY x 1000000000=(c:Int):=ec
 exact ⟨c,s1,hc,o,λe h0=>zp (zE (zT (zf h0) rfl) e1) (zp rfl rfl (GO _)) ((jj _ _ (by decide)).trans (by rw [ec]))⟩
def nj (z:Str):Hs [(z,2)]:=⟨by simp,λh hh=>by rw [jN.mp hh];show 2<=6;decide⟩
theorem q8 {nm:Nat->Str}{P:Nat->Prop}(h:∀i j,P i->P j->nm i=nm j->i=j):∀{l:List Nat},l.Nodup->(∀i∈l,P i)->(l.map nm).Nodup
 | [],_,_=>.nil
 | x::l,nd,hp=>by
  rw [jH] at nd
  rw [yu,jH]
  refine ⟨λhm=>?_,q8 h nd.2 λi hi=>hp i (jm _ hi)⟩
  obtain ⟨y,hy,e⟩:=jv.mp hm
  have:=h y x (hp y (jm _ hy)) (hp x (y0 ..)) e
  exact nd.1 (this▸hy)
noncomputable abbrev xy:Ad:=["x", "y"]
def q9 (r:An):nP (.tup (.str "go" :: r)):=⟨_,_,rfl,tZ,n7,m3⟩
noncomputable abbrev bL:Aj:=(zw (zH 6 (ze ya (As "n") (zu mK (zd (ze ya (ze zV (ze yO (zc 1) (Ar 60)) (Ar 100000)) (zc 5)) zo))))
  (zw (yK (yF yJ (zc 4) (zu lD (zd (ze ya (zu jr (zd (zc 0) (zd (ze ya (Ar 7) (ze zV (zc 5) (Ar 50))) zo))) (zc 5)) (zd (zc 6) (zd (zc 3) (zd (zc 2) zo)))))))
  (yK (yF yJ (zc 3) (zc 6)))))
def G6 {z:Str}{f:PV}(h:fV [(z,2)] (z,2) f):m9 [(z,2)] [f]:=⟨nj z,rfl,by simp,by simp,λi h' f' e1 e2=>by
 cases i with
 | zero=>cases e1;cases e2;exact h
 | succ i=>simp at e1⟩
theorem SU (ns:List Int) (st:aa):∃hs fs s1,AD [.frl (ns.map PV.int)] st=.ok (.tup fs) s1/\m9 hs fs/\Old st s1:=by
 obtain ⟨c,s1,hc,o1,e1⟩:=qZ ns 6 (by decide) st
 let s2:=s1++[SO.lst (c_ [("long", 2)])]
 let s3:=s2++[SO.lst (xy.map PV.str)]
 let s4:=s3++[SO.lst []]
 have l2:s2.length=s1.length+1:=by simp [s2]
 have l3:s3.length=s1.length+2:=by simp [s3,s2]
 have qX:s4[s1.length]?=some (.lst (c_ [("long", 2)])):=zU _ _ _ _ (zU _ _ _ _ (yj _ _))
 have SV:s4[s2.length]?=some (.lst (xy.map PV.str)):=zU _ _ _ _ (yj _ _)
 have t4:s4[s3.length]?=some (.lst []):=yj _ _
 have o4:Old s1 s4:=(zU _ _).trans ((zU _ _).trans (zU _ _))
 let q:=c/60%100000
 have hq:q<100000:=jQ _ (by decide)
 let nm:Nat->Str:=λk => "n" ++ kG (q+k)
 have ln:("n" : Str).length=1:=by decide +kernel
 have hm:c%60<60:=jQ _ (by decide)
 generalize em:c%60=m at hm
 obtain ⟨e',s5,F,⟨z5,z6,he⟩,ob,ud,ss,t5,cI,qW⟩:=mZ (gt:=gN 5) (body:=bL) (fs:=(zd (ze zV (zc 1) (Ar 60)) zo)) (e:=[some (.frl (ns.map PV.int)),Au c,At s1.length,At s2.length,At s3.length,none,none]) (st:=s4) (λi e s=>(∃z5 z6,e=[some (.frl (ns.map PV.int)),Au c,At s1.length,At s2.length,At s3.length,z5,z6])/\(∀(k:Nat) so,k<s2.length->s4[k]?=some so->s[k]?=some so)/\s[s2.length]?=some (.lst ((xy++(List.range i).map nm).map PV.str))/\∃ss,s[s3.length]?=some (.lst ss)/\cb [("long", 2)] xy ss ((List.range i).map nm)/\ss.length=i) m (by omega) (zL (zp (zf rfl) rfl ((jM c 60 (by decide)).trans (by rw [em])))) (λi e s hi ⟨⟨z5,z6,he⟩,ob,ud,ss,t5,cI,qW⟩=>by
  subst he
  have SW:i%50<50:=jQ _ (by decide)
  obtain ⟨y,t1,f1,g1⟩:=iO ns (7+i%50) (by omega) s
  have zl:(xy++(List.range i).map nm).length<=900:=by simp;omega
  obtain ⟨v,t2,f2,hv,g2⟩:=A8 (y+(i:Int)) (nm i) zl (nj "long") (g1 _ _ ud) (g1 _ _ (ob _ _ (by omega) qX))
  have o3:=g1.trans g2
  obtain ⟨Wz,SX,A1,k1,A2,k2,k3,k4⟩:=G0 (s1:=s4) (a0:=s2.length) (v:=v) (z:=nm i) (o3 _ _ t5) (o3 _ _ ud) (by omega) (by omega) (by omega) (λk so hk e=>o3 _ _ (ob k so hk e)) (by omega) (ym _)
  refine ⟨[some (.frl (ns.map PV.int)),Au c,At s1.length,At s2.length,At s3.length,Au i,z6],_,SX,rfl,zB (zN (zp rfl (zE (zL (zp (zp (zp (zf rfl) rfl (g_ c 60 (by decide) (by decide))) rfl (jM _ 100000 (by decide))) (zf rfl) (yZ q i))) (GV _ (by omega) _)) (ad _ _ (by have:=GU (q+i) (by omega);omega) _))) (zB (jW (jL (zf rfl) t5 (zE (wo (zp (zE (zT (zf rfl) (zp rfl (zp (zf rfl) rfl (jM i 50 (by decide))) (yZ 7 _))) f1) (zf rfl) (qI _ _)) (zf rfl) (zf rfl) (zf rfl)) f2) A1)) (jW (jL (zf rfl) k1 (zf rfl) A2))),⟨_,_,rfl⟩,k4,?_,ss++[v],k2,?_,by simp [qW]⟩
  ·rw [show xy++(List.range (i+1)).map nm=(xy++(List.range i).map nm)++[nm i] by simp [o_]];exact k3
  ·rw [o_,ju];exact cI.snoc hv) ⟨⟨none,none,rfl⟩,λk so hk e=>e,SV,[],t4,.nil _,rfl⟩
 subst he
 have zl:(xy++(List.range m).map nm).length<=900:=by simp;omega
 have tu:jx [.ref s3.length] s5=.ok (.tup ss) s5:=by rw [wm,yr t5]
 obtain ⟨as,s6,e6,q_,bT,o6⟩:=oR c 2 (by decide) zl ud
 refine ⟨[("long", 2)],[.tup [.str "long", .tup (xy.map PV.str),.tup [.tup ss,.tup [.str "go", .str "long", .tup as]]]],s6,yg rfl (zB (zN (e1 _ rfl)) (zB (zN (jh (xs:=c_ [("long", 2)]) rfl (by decide))) (zB (zN (jh (xs:=xy.map PV.str) rfl (by decide))) (zB (zN (jh jt (by simp))) (zB F (yn (zX (zL (zX (yL rfl (zX (zT rfl rfl) (by simp)) (zX (zT (zE (zL (zf rfl)) tu) (zX (yL rfl rfl (zE (yL (zf rfl) rfl (zf rfl)) e6)) (by simp))) (by simp))) (by simp))) (by simp)))))))),G6 ?_,λk so e=>?_⟩
 ·refine ⟨xy,(List.range m).map nm,_,_,⟨⟨_,rfl,.leaf ss _ (q9 _)⟩,?_,?_,by omega,by simp;omega,by simp⟩,rfl⟩
  ·have:=cI.app (l2:=[.tup [.str "go", .str "long", .tup as]]) (z2:=[]) (.fin _ _ _ _ (.go _ as (by rw [q_];exact jN.mpr rfl) bT) (.nil _))
   simpa using this
  ·rw [List.nodup_append]
   refine ⟨by decide +kernel,q8 (P:=λ_=>True) (λi j _ _ h=>by have:=GS (A3 h);omega) List.nodup_range (λ_ _=>trivial),λa ha b hb e=>?_⟩
   subst e
   obtain ⟨i,_,hi⟩:=jv.mp hb
   have h0:a.cps.toList[0]?=some 110:=by
    rw [<-hi]
    show (("n" : Str)++kG (q+i)).cps.toList[0]?=_
    rw [PySem.Str.cps_append,Array.toList_append,show ("n" : Str).cps.toList=[110] by decide +kernel]
    rfl
   rcases yC.mp ha with r|r
   ·rw [r] at h0;revert h0;decide +kernel
   ·rw [jN.mp r] at h0;revert h0;decide +kernel
 ·exact o6 _ _ (ob k so (by have:=yk (o1 _ _ e);omega) (o4 _ _ (o1 _ _ e)))
theorem SY (xs:An) (k:Nat):cX xs none (some (k:Int))=xs.take k:=by
 unfold cX
 rw [HT.sIx_none,HT.sIx_nat,List.drop_zero,Nat.sub_zero]
 by_cases h:k<=xs.length
 ·rw [Nat.min_eq_left h]
 ·rw [Nat.min_eq_right (by omega),List.take_length,List.take_of_length_le (by omega)]
def G7 {s:aa}{n:Nat}{zs:Ad}(h:s[n]?=some (.lst (zs.map PV.str))) (k:Nat):oq (.ref n) none (some (k:Int)) s=.ok (.ref s.length) (s++[.lst ((zs.take k).map PV.str)]):=by
 rw [Po,yr h,SY,List.map_take]
def uW (a b:Int) (st:aa):wF (.int a) (.int b) st=.ok (.bl (a==b)) st:=by
 unfold wF
 rw [show eqT st 150 (.int a) (.int b)=some (a==b) from rfl]
noncomputable def yX:Ad:=["p", "q", "s1", "s2", "s3", "s4", "s5", "s6", "s7", "s8"]
noncomputable abbrev bD:Aj:=(zw (zH 5 (zu jr (zd (zc 0) (zd (ze ya (Ar 7) (zc 4)) zo))))
  (zw (zH 6 (zu lD (zd (zc 5) (zd (ze zv (zc 2) (ze jC (Ar 9) (zc 4))) (zd (lg (zc 2) d7 (cP (ze jC (Ar 9) (zc 4)))) (zd (yU (zd (zC (zd (As "deep") (zd (Ar 2) zo))) zo)) zo))))))
  (zw (zH 7 (zC (zd (zC zo) (zd (zC (zd (As "go") (zd (As "deep") (zd (zu ky (zd (ze yO (zc 5) (Ar 7)) (zd (Ar 2) (zd (lg (zc 2) d7 (cP (ze jC (Ar 10) (zc 4)))) zo)))) zo)))) zo))))
  (zw (zH 8 (zC (zd (As "of") (zd (ze zv (zc 2) (zu jG (zd (zc 5) (zd (Ar 15) (zd (ze jC (Ar 10) (zc 4)) zo))))) zo))))
  (zY (mB (ze ye (ze zV (zc 5) (Ar 2)) (Ar 0)))
  (zH 3 (zC (zd (zC (zd (zc 6) zo)) (zd (zC (zd (As "if") (zd (zc 8) (zd (zc 3) (zd (zc 7) zo))))) zo))))
  (zH 3 (zC (zd (zC (zd (zc 6) zo)) (zd (zC (zd (As "if") (zd (zc 8) (zd (zc 7) (zd (zc 3) zo))))) zo)))))))))
def fA {s:aa}{n:Nat}{zs:Ad}(h:s[n]?=some (.lst (zs.map PV.str))) {i:Nat}(hi:i<zs.length):zv (.ref n) (.int (i:Int)) s=.ok (.str (zs[i]'hi)) s:=by
 rw [mL,yr h,a4 (x:=PV.str (zs[i]'hi)) (by rw [yM,yx hi];rfl)]
 rfl
theorem S0 (ns:List Int) (st:aa):∃hs fs s1,AH [.frl (ns.map PV.int)] st=.ok (.tup fs) s1/\m9 hs fs/\Old st s1:=by
 obtain ⟨c,s1,hc,o1,e1⟩:=qZ ns 6 (by decide) st
 let s2:=s1++[SO.lst (yX.map PV.str)]
 have h2:s2[s1.length]?=some (.lst (yX.map PV.str)):=yj _ _
 obtain ⟨as,s3,e3,q_,bT,o3⟩:=oR c 2 (by decide) (zs:=yX) (by decide) h2
 have WA:yX.length=10:=rfl
 obtain ⟨e',s4,F,⟨bv,z4,z5,z6,z7,z8,he,ls,dd,B,oS,G8,cI⟩,o4⟩:=mZ (gt:=gN 4) (body:=bD) (fs:=(zd (Ar 8) zo)) (e:=[some (.frl (ns.map PV.int)),Au c,At s1.length,some (.tup [.tup [],.tup [.str "go", .str "deep", .tup as]]),none,none,none,none,none]) (st:=s3) (λi e s=>(∃bv z4 z5 z6 z7 z8,e=[some (.frl (ns.map PV.int)),Au c,At s1.length,some bv,z4,z5,z6,z7,z8]/\∃ls dd,Bk bv ls dd/\dd<=i/\ls.length<=1+3*i/\cb [("deep", 2)] (yX.take (10-i)) ls (yX.drop (10-i)))/\Old s3 s) 8 (by decide) rfl (λi e s hi ⟨⟨bv,z4,z5,z6,z7,z8,he,ls,dd,B,oS,G8,cI⟩,o⟩=>by
  subst he
  have a9:(9:Int)-(i:Int)=((9-i:Nat):Int):=by omega
  have G9:(10:Int)-(i:Int)=((10-i:Nat):Int):=by omega
  have hN:∀{s':aa},Old s s'->s'[s1.length]?=some (.lst (yX.map PV.str)):=λo'=>o' _ _ (o _ _ (o3 _ _ h2))
  obtain ⟨y,t1,f1,g1⟩:=iO ns (7+i) (by omega) s
  have lJ:9-i<yX.length:=by omega
  let t2:=t1++[SO.lst ((yX.take (9-i)).map PV.str)]
  let t3:=t2++[SO.lst (c_ [("deep", 2)])]
  obtain ⟨v,t4,f4,hv,g4⟩:=A8 y (yX[9-i]'lJ) (zs:=yX.take (9-i)) (by simp;omega) (nj "deep") (st:=t3) (sc:=t1.length) (hd:=t2.length) (zU _ _ _ _ (yj _ _)) (yj _ _)
  have oU:Old s t4:=g1.trans ((zU _ _).trans ((zU _ _).trans g4))
  let t5:=t4++[SO.lst ((yX.take (10-i)).map PV.str)]
  obtain ⟨nq,t6,f6,G_,Ha,g6⟩:=oR (jD y 7) 2 (by decide) (zs:=yX.take (10-i)) (by simp;omega) (st:=t5) (sc:=t4.length) (yj _ _)
  have Bb:Old s t6:=oU.trans ((zU _ _).trans g6)
  obtain ⟨j,hj,ej⟩:=wU y 15 (10-i) (by decide) (by omega) t6
  have ue:j<yX.length:=by omega
  obtain ⟨r,hr,er⟩:=bz y 2 (by decide)
  have er:yY y 2=(r:Int):=er
  have S3:yX.take (10-i)=yX.take (9-i)++[yX[9-i]'lJ]:=by
   rw [show 10-i=(9-i)+1 by omega]
   exact g9 (yx lJ)
  have S4:yX.drop (9-i)=yX[9-i]'lJ::yX.drop (10-i):=by
   rw [wa lJ,show 9-i+1=10-i by omega]
  have pre:∀{X:Res Fl},(zY (mB (ze ye (ze zV (zc 5) (Ar 2)) (Ar 0)))
   (zH 3 (zC (zd (zC (zd (zc 6) zo)) (zd (zC (zd (As "if") (zd (zc 8) (zd (zc 3) (zd (zc 7) zo))))) zo))))
   (zH 3 (zC (zd (zC (zd (zc 6) zo)) (zd (zC (zd (As "if") (zd (zc 8) (zd (zc 7) (zd (zc 3) zo))))) zo))))) [some (.frl (ns.map PV.int)),Au c,At s1.length,some bv,Au i,some (.int y),some v,some (.tup [.tup [],.tup [.str "go", .str "deep", .tup nq]]),some (.tup [.str "of", .str (yX[j]'ue)])] t6=X->bD [some (.frl (ns.map PV.int)),Au c,At s1.length,some bv,Au i,z5,z6,z7,z8] s=X:=λh=>zB (zN (zE (zT (zf rfl) (zp rfl (zf rfl) (yZ 7 i))) f1)) (zB (zN (zE (wo (zf rfl) (zp (zf rfl) (zp rfl (zf rfl) ((wG _ _).trans (by rw [a9]))) (fA (hN g1) lJ)) (Fq (zf rfl) Ft (xV (zp rfl (zf rfl) ((wG _ _).trans (by rw [a9])))) (G7 (hN g1) (9-i))) (jh (xs:=c_ [("deep", 2)]) rfl (by decide))) f4)) (zB (zN (zX (zT (zX jt (by simp)) (zX (yL rfl rfl (zE (yL (zp (zf rfl) rfl (wH _ _ (by decide) (by decide))) rfl (Fq (zf rfl) Ft (xV (zp rfl (zf rfl) ((wG _ _).trans (by rw [G9])))) (G7 (hN oU) (10-i)))) f6)) (by simp))) (by simp))) (zB (zN (zX (zT rfl (zp (zf rfl) (zE (yL (zf rfl) rfl (zp rfl (zf rfl) ((wG _ _).trans (by rw [G9])))) ej) (fA (hN Bb) ue))) (by simp))) h)))
  have Bg:Bk (.tup [.tup [],.tup [.str "go", .str "deep", .tup nq]]) [.tup [.str "go", .str "deep", .tup nq]] 0:=.leaf [] _ (q9 _)
  have ng:dW [("deep", 2)] (yX.take (10-i)) (.tup [.str "go", .str "deep", .tup nq]):=.go _ _ (by rw [G_];exact jN.mpr rfl) Ha
  have ni:∀v1 v2,dW [("deep", 2)] (yX.take (10-i)) (.tup [.str "if", .tup [.str "of", .str (yX[j]'ue)],v1,v2]):=λv1 v2=>.if_ _ _ _ (.of _ (List.mem_iff_getElem?.mpr ⟨j,by rw [List.getElem?_take_of_lt hj,yx ue]⟩))
  have Hb:∀{Hc:An} {Hd:Ad},cb [("deep", 2)] (yX.take (10-i)) Hc Hd->cb [("deep", 2)] (yX.take (10-(i+1))) (v::Hc) (yX[9-i]'lJ::Hd):=λh=>by
   rw [show 10-(i+1)=9-i by omega]
   rw [S3] at h
   exact .stp _ _ _ _ _ hv h
  have dq:yX.drop (10-(i+1))=yX[9-i]'lJ::yX.drop (10-i):=by rw [show 10-(i+1)=9-i by omega];exact S4
  rw [dq]
  by_cases hr0:r=0
  ·refine ⟨[some (.frl (ns.map PV.int)),Au c,At s1.length,some bv,Au i,z5,z6,z7,z8],_,t6,rfl,pre (yR (yc (zp (zp (zf rfl) rfl ((jj _ _ (by decide)).trans (by rw [er]))) rfl (bq true (by simp;omega) _))) (zN (zX (zT (zX (zL (zf rfl)) (by simp)) (zX (wo rfl (zf rfl) (zf rfl) (zf rfl)) (by simp))) (by simp)))),⟨_,_,_,_,_,_,rfl,_,_,.node [v] _ _ _ _ _ _ _ B Bg,by omega,by simp;omega,?_⟩,o.trans Bb⟩
   show cb _ _ (v::(.tup [.str "if", _,bv,_]::(ls++[.tup [.str "go", .str "deep", .tup nq]]))) _
   refine Hb (.fin _ _ _ _ (ni _ _) ?_)
   have:=cI.app (l2:=[.tup [.str "go", .str "deep", .tup nq]]) (z2:=[]) (.fin _ _ _ _ (ng.mono λz hz=>gh _ hz) (.nil _))
   simpa using this
  ·refine ⟨[some (.frl (ns.map PV.int)),Au c,At s1.length,some bv,Au i,z5,z6,z7,z8],_,t6,rfl,pre (xS (yc (zp (zp (zf rfl) rfl ((jj _ _ (by decide)).trans (by rw [er]))) rfl (bq false (by simp;omega) _))) (zN (zX (zT (zX (zL (zf rfl)) (by simp)) (zX (wo rfl (zf rfl) (zf rfl) (zf rfl)) (by simp))) (by simp)))),⟨_,_,_,_,_,_,rfl,_,_,.node [v] _ _ _ _ _ _ _ Bg B,by omega,by simp;omega,?_⟩,o.trans Bb⟩
   show cb _ _ (v::(.tup [.str "if", _,_,bv]::(.tup [.str "go", .str "deep", .tup nq]::ls))) _
   exact Hb (.fin _ _ _ _ (ni _ _) (.fin _ _ _ _ ng cI))) ⟨⟨_,none,none,none,none,none,rfl,_,0,.leaf [] _ (q9 _),ym _,by simp,.fin _ _ _ _ (.go _ _ (by rw [q_];exact jN.mpr rfl) bT) (.nil _)⟩,Old.refl _⟩
 subst he
 refine ⟨[("deep", 2)],[.tup [.str "deep", .tup ((["p", "q"]:Ad).map PV.str),bv]],s4,yg rfl (zB (zN (e1 _ rfl)) (zB (zN (jh (xs:=yX.map PV.str) rfl (by decide))) (zB (zN (zX (zT (zX jt (by simp)) (zX (yL rfl rfl (zE (yL (zf rfl) rfl (zf rfl)) e3)) (by simp))) (by simp))) (zB F (yn (zX (zL (zX (yL rfl (zX (zT rfl rfl) (by simp)) (zf rfl)) (by simp))) (by simp))))))),G6 ?_,o1.trans ((zU _ _).trans (o3.trans o4))⟩
 exact ⟨["p", "q"],yX.drop 2,ls,dd,⟨⟨_,rfl,B⟩,cI,by decide +kernel,by omega,by omega,by simp⟩,rfl⟩
noncomputable abbrev pq:Ad:=["p", "q"]
theorem S5 (h:Int) (aim:Str) (st:aa):∃stp as s1,tJ [.int h,.str aim] st=.ok (.tup [.str "if", .tup [.str "of", .str "p"],.tup [.tup [stp],.tup [.str "go", .str aim,.tup as]],.tup [.tup [],.tup [.str "give", .tup [.str "of", .str "q"]]]]) s1/\(∀hs,cL hs pq "z" stp)/\as.length=2/\(∀a∈as,cv ["p", "q", "z"] a)/\Old st s1:=by
 obtain ⟨a,ha,ea⟩:=bz h 7 (by decide)
 have ea:yY h 7=(a:Int):=ea
 obtain ⟨b,hb,eb⟩:=bz (jD h 7) 5 (by decide)
 have eb:yY (jD h 7) 5=(b:Int):=eb
 obtain ⟨c,hc,ec⟩:=bz (jD h 35) 3 (by decide)
 have ec:yY (jD h 35) 3=(c:Int):=ec
 have K1:∃stp,(∀hs,cL hs pq "z" stp)/\(zY (mB (ze ye (ze zV (zc 0) (Ar 7)) (Ar 3)))
  (zH 2 (zC (zd (As "let") (zd (As "z") (zd (As "add") (zd (zC (zd (zC (zd (As "of") (zd (As "p") zo))) (zd (zC (zd (As "is") (zd (Ar 1) zo))) zo))) zo))))))
  yd) [some (.int h),some (.str aim),some (.tup [.str "let", .str "z", .str "down", .tup [.tup [.str "of", .str "p"]]]),none] st=.ok (.nx [some (.int h),some (.str aim),some stp,none]) st:=by
  by_cases h3:a=3
  ·refine ⟨_,?_,yR (yc (zp (zp (zf rfl) rfl ((jj _ _ (by decide)).trans (by rw [ea]))) rfl (bq true (by simp;omega) _))) (zN (zX (wo rfl rfl rfl (zX (zT (zX (zT rfl rfl) (by simp)) (zX (zT rfl rfl) (by simp))) (by simp))) (by simp)))⟩
   refine λhs=>.let_ "add" 2 _ (by decide +kernel) (by simp) λy hy=>?_
   rcases yC.mp hy with q|q
   ·rw [q];exact .of _ (by simp)
   ·rw [jN.mp q];exact .is _
  ·refine ⟨_,?_,yD (yc (zp (zp (zf rfl) rfl ((jj _ _ (by decide)).trans (by rw [ea]))) rfl (bq false (by simp;omega) _)))⟩
   refine λhs=>.let_ "down" 1 _ (by decide +kernel) (by simp) λy hy=>?_
   rw [jN.mp hy];exact .of _ (by simp)
 obtain ⟨stp,cC,E1⟩:=K1
 let A0:An:=[.tup [.str "of", .str "z"],.tup [.str "of", .str "q"]]
 let s1:=st++[SO.lst A0]
 have K2:∃(A1:An) (s2:aa),(zY (mB (ze ye (ze zV (ze yO (zc 0) (Ar 7)) (Ar 5)) (Ar 2)))
  (mP (zc 3) (Ar 1) (zC (zd (As "is") (zd (ze zV (ze yO (zc 0) (Ar 35)) (Ar 9)) zo))))
  yd) [some (.int h),some (.str aim),some stp,At st.length] s1=.ok (.nx [some (.int h),some (.str aim),some stp,At st.length]) s2/\s2[st.length]?=some (.lst A1)/\(A1.length=2/\∀a∈A1,cv ["p", "q", "z"] a)/\Old st s2:=by
  have a0:cv ["p", "q", "z"] (.tup [.str "of", .str "z"]):=.of _ (by simp)
  have a1:cv ["p", "q", "z"] (.tup [.str "of", .str "q"]):=.of _ (by simp)
  by_cases h2:b=2
  ·have P:=G4 (fo:=zc 3) (fi:=Ar 1) (fv:=(zC (zd (As "is") (zd (ze zV (ze yO (zc 0) (Ar 35)) (Ar 9)) zo)))) (e:=[some (.int h),some (.str aim),some stp,At st.length]) (s:=s1) (i:=1) (zX (zT rfl (zp (zp (zf rfl) rfl (wH _ _ (by decide) (by decide))) rfl (jj _ _ (by decide)))) (by simp)) (zf rfl) rfl (yj _ _) (by simp [A0])
   exact ⟨_,_,yR (yc (zp (zp (zp (zf rfl) rfl (wH _ _ (by decide) (by decide))) rfl ((jj _ _ (by decide)).trans (by rw [eb]))) rfl (bq true (by simp;omega) _))) P,je (by simp [s1]),⟨rfl,λa ha=>by
    rcases yC.mp ha with q|q
    ·rw [q];exact a0
    ·rw [jN.mp q];exact .is _⟩,λn so e=>by rw [yo (by have:=yk e;omega)];exact zU _ _ _ _ e⟩
  ·exact ⟨A0,s1,yD (yc (zp (zp (zp (zf rfl) rfl (wH _ _ (by decide) (by decide))) rfl ((jj _ _ (by decide)).trans (by rw [eb]))) rfl (bq false (by simp;omega) _))),yj _ _,⟨rfl,λa ha=>by
    rcases yC.mp ha with q|q
    ·rw [q];exact a0
    ·rw [jN.mp q];exact a1⟩,zU _ _⟩
 obtain ⟨A1,s2,E2,h2,Bc,o2⟩:=K2
 have K3:∃(A2:An) (r:Nat) (s3:aa),(zY (mB (ze ye (ze zV (ze yO (zc 0) (Ar 35)) (Ar 3)) (Ar 1)))
  (zH 3 (qu (zc 3) (cP (jZ qc (Ar 1)))))
  yd) [some (.int h),some (.str aim),some stp,At st.length] s2=.ok (.nx [some (.int h),some (.str aim),some stp,At r]) s3/\s3[r]?=some (.lst A2)/\(A2.length=2/\∀a∈A2,cv ["p", "q", "z"] a)/\Old st s3:=by
  by_cases h1:c=1
  ·have pn:cP (jZ qc (Ar 1)) [some (.int h),some (.str aim),some stp,At st.length] s2=.ok (some (-1)) s2:=xV (qG rfl rfl)
   have R:(qu (zc 3) (cP (jZ qc (Ar 1)))) [some (.int h),some (.str aim),some stp,At st.length] s2=.ok (.ref s2.length) (s2++[.lst A1.reverse]):=by
    rw [Pm,zf (v:=.ref st.length) rfl,zG,pn,zG,Pn,yr h2]
   exact ⟨_,_,_,yR (yc (zp (zp (zp (zf rfl) rfl (wH _ _ (by decide) (by decide))) rfl ((jj _ _ (by decide)).trans (by rw [ec]))) rfl (bq true (by simp;omega) _))) (zN R),yj _ _,⟨by rw [List.length_reverse];exact Bc.1,λa ha=>Bc.2 a (List.mem_reverse.mp ha)⟩,o2.trans (zU _ _)⟩
  ·exact ⟨A1,_,s2,yD (yc (zp (zp (zp (zf rfl) rfl (wH _ _ (by decide) (by decide))) rfl ((jj _ _ (by decide)).trans (by rw [ec]))) rfl (bq false (by simp;omega) _))),h2,Bc,o2⟩
 obtain ⟨A2,r,s3,E3,h3,He,o3⟩:=K3
 exact ⟨stp,A2,s3,yg rfl (zB (zN (zX (wo rfl rfl rfl (zX (zL (zX (zT rfl rfl) (by simp))) (by simp))) (by simp))) (zB E1 (zB (zN (jh (xs:=A0) (zT (zX (zT rfl rfl) (by simp)) (zX (zT rfl rfl) (by simp))) (by decide))) (zB E2 (zB E3 (yn (zX (wo rfl (zX (zT rfl rfl) (by simp)) (zX (zT (zX (zL (zf rfl)) (by simp)) (zX (yL rfl (zf rfl) (zE (zL (zf rfl)) (by rw [wm,yr h3]))) (by simp))) (by simp)) (zX (zT (zX jt (by simp)) (zX (zT rfl (zX (zT rfl rfl) (by simp))) (by simp))) (by simp))) (by simp)))))))),cC,He.1,He.2,o3⟩
def Bd (r:An):nP (.tup (.str "give" :: r)):=⟨_,_,rfl,tY,n3,m1⟩
def Hf {op:Am}{fo fv:Ai}{e:zm}{s s1:aa}{n:Nat}{xs:An}{x:PV}(ho:fo e s=.ok (.ref n) s) (h:s[n]?=some (.lst xs)) (hv:fv e s=.ok x s1):yK (yF op fo fv) e s=(op (.ref n) x s1).bind λ_ st=>.ok (.nx e) st:=by
 show (yF op fo fv e s).bind _=_
 rw [jL ho h hv rfl]
theorem S6 {hs:List (Str×Nat)} {h:Str×Nat} {stp:PV} {aim:Str} {as:An} (cC:cL hs pq "z" stp) (h2:h.2=2) (ha:(aim,as.length)∈hs) (bT:∀a∈as,cv ["p", "q", "z"] a):fV hs h (.tup [.str h.1,.tup (pq.map PV.str),.tup [.tup [],.tup [.str "if", .tup [.str "of", .str "p"],.tup [.tup [stp],.tup [.str "go", .str aim,.tup as]],.tup [.tup [],.tup [.str "give", .tup [.str "of", .str "q"]]]]]]):=by
 refine ⟨pq,["z"],_,_,⟨⟨_,rfl,.node [] _ _ _ _ _ _ _ (.leaf [stp] _ (q9 _)) (.leaf [] _ (Bd _))⟩,?_,by decide +kernel,by decide,by simp,by simp⟩,h2.symm⟩
 exact .fin _ _ _ _ (.if_ _ _ _ (.of _ (by simp))) (.stp _ _ _ _ _ cC (.fin _ _ _ _ (.go _ _ ha bT) (.fin _ _ _ _ (.give _ (.of _ (by simp))) (.nil _))))
def S7 {hs:List (Str×Nat)} {h:Str×Nat} {aim:Str} (h2:h.2=0) (ha:(aim,0)∈hs):fV hs h (.tup [.str h.1,.tup [],.tup [.tup [],.tup [.str "go", .str aim,.tup []]]]):=by
 refine ⟨[],[],_,_,⟨⟨_,rfl,.leaf [] _ (q9 _)⟩,?_,by simp,by decide,by simp,by simp⟩,h2.symm⟩
 exact .fin _ _ _ _ (.go _ _ ha (λ_ h=>nomatch h)) (.nil _)
noncomputable abbrev jR:Aj:=(zY (mB (ze iE (zc 2) (Ar 40)))
  (yK (yF yJ (zc 4) (zC (zd (zc 8) (zd (zC zo) (zd (zC (zd (zC zo) (zd (zC (zd (As "go") (zd (zu wy (zd (zc 3) (zd (zc 7) zo))) (zd (zC zo) zo)))) zo))) zo))))))
  (yK (yF yJ (zc 4) (zC (zd (zc 8) (zd (zC (zd (As "p") (zd (As "q") zo))) (zd (zC (zd (zC zo) (zd (zu tJ (zd (zc 6) (zd (zu wy (zd (zc 3) (zd (zc 7) zo))) zo))) zo))) zo)))))))
noncomputable abbrev bR:Aj:=(zw (zH 6 (zu jr (zd (zc 0) (zd (ze ya (Ar 7) (ze zV (zc 5) (Ar 50))) zo))))
  (zw (zH 7 (ze ya (zc 5) (Ar 1)))
  (zw (zY (mB (ze wF (zc 5) (ze jC (zc 2) (Ar 1))))
  (zH 7 (ze zV (zc 6) (zc 2)))
  yd)
  (zw (zH 8 (zu wy (zd (zc 3) (zd (zc 5) zo))))
  jR))))
noncomputable abbrev eR (ns:List Int) (c m sd:Nat) (r:Nat) (z5 z6 z7 z8:Ao):zm:=[some (.frl (ns.map PV.int)),Au c,Au m,Au sd,At r,z5,z6,z7,z8]
theorem S9 (ns:List Int) (st:aa):∃hs fs s1,AG [.frl (ns.map PV.int)] st=.ok (.tup fs) s1/\m9 hs fs/\Old st s1:=by
 obtain ⟨c,s1,hc,o1,e1⟩:=qZ ns 6 (by decide) st
 have K:∃m:Nat,0<m/\m<=200/\(zY (mB (ze ye (ze zV (ze yO (zc 1) (Ar 12)) (Ar 8)) (Ar 1)))
  (zH 2 (ze ya (Ar 1) (ze zV (ze yO (zc 1) (Ar 96)) (Ar 200))))
  yd) [some (.frl (ns.map PV.int)),Au c,some (.int ((1+c%12:Nat):Int)),none,none,none,none,none,none] s1=.ok (.nx [some (.frl (ns.map PV.int)),Au c,Au m,none,none,none,none,none,none]) s1:=by
  by_cases h1:c/12%8=1
  ·refine ⟨1+c/96%200,by omega,by have:=jQ (c/96) (show 0<200 by decide);omega,yR (yc (zp (zp (zp (zf rfl) rfl (g_ c 12 (by decide) (by decide))) rfl (jM _ 8 (by decide))) rfl (bq true (by simp;omega) _))) (zN (zp rfl (zp (zp (zf rfl) rfl (g_ c 96 (by decide) (by decide))) rfl (jM _ 200 (by decide))) (yZ 1 _)))⟩
  ·exact ⟨1+c%12,by omega,by have:=jQ c (show 0<12 by decide);omega,yD (yc (zp (zp (zp (zf rfl) rfl (g_ c 12 (by decide) (by decide))) rfl (jM _ 8 (by decide))) rfl (bq false (by simp;omega) _)))⟩
 obtain ⟨m,S_,hm,E2⟩:=K
 have h9:c/17%900000<900000:=jQ _ (by decide)
 obtain ⟨nm,M⟩:=A4 (4*(c/17%900000)+2) (by omega)
 generalize eS:4*(c/17%900000)+2=sd at M
 have s4:sd%4=2:=by omega
 let s2:=s1++[SO.lst []]
 obtain ⟨np,Be⟩:∃np:Nat,np=if 40<m then 0 else 2:=⟨_,rfl⟩
 let hs:List (Str×Nat):=(List.range m).map λk=>(nm k,np)
 have bT:∀k,k<m->(nm k,np)∈hs:=λk hk=>jv.mpr ⟨k,gj.mpr hk,rfl⟩
 have Hg:∀k h,hs[k]?=some h->h=(nm k,np):=λk h e=>by
  simp only [hs,yM,List.getElem?_range] at e
  by_cases hk:k<m
  ·simp [hk] at e;exact e.symm
  ·simp [hk] at e
 have WB:(m:Int)-1=((m-1:Nat):Int):=by omega
 obtain ⟨e',s3,F,⟨z5,z6,z7,z8,he⟩,ob,fs,h3,nr,lK⟩:=mZ (gt:=gN 5) (body:=bR) (fs:=(zd (zc 2) zo)) (e:=eR ns c m sd s1.length none none none none) (st:=s2) (λi e s=>(∃z5 z6 z7 z8,e=eR ns c m sd s1.length z5 z6 z7 z8)/\(∀(k:Nat) so,k≠s1.length->s2[k]?=some so->s[k]?=some so)/\∃fs,s[s1.length]?=some (.lst fs)/\(∀(j:Nat) h f,hs[j]?=some h->fs[j]?=some f->fV hs h f)/\fs.length=i) m (by omega) (zL (zf rfl)) (λi e s hi ⟨⟨z5,z6,z7,z8,he⟩,ob,fs,h3,nr,lK⟩=>by
  subst he
  have SW:i%50<50:=jQ _ (by decide)
  obtain ⟨y,t1,f1,g1⟩:=iO ns (7+i%50) (by omega) s
  obtain ⟨r,hr,er⟩:=bz y m S_
  have K:∃a:Nat,a<m/\(zY (mB (ze wF (zc 5) (ze jC (zc 2) (Ar 1)))) (zH 7 (ze zV (zc 6) (zc 2))) yd) (eR ns c m sd s1.length (Au i) (some (.int y)) (some (.int ((i+1:Nat):Int))) z8) t1=.ok (.nx (eR ns c m sd s1.length (Au i) (some (.int y)) (Au a) z8)) t1:=by
   by_cases h:i=m-1
   ·exact ⟨r,by omega,yR (yc (zp (zf rfl) (zp (zf rfl) rfl (wG _ _)) ((uW _ _ _).trans (by rw [show ((i:Int)==(m:Int)-1)=true by simp;omega])))) (zN (zp (zf rfl) (zf rfl) ((jj _ _ (by omega)).trans (by rw [er]))))⟩
   ·exact ⟨i+1,by omega,yD (yc (zp (zf rfl) (zp (zf rfl) rfl (wG _ _)) ((uW _ _ _).trans (by rw [show ((i:Int)==(m:Int)-1)=false by simp;omega]))))⟩
  obtain ⟨a,ha,E⟩:=K
  obtain ⟨t2,f2,g2⟩:=M.at_ i (by omega) t1
  obtain ⟨t3,f3,g3⟩:=M.at_ a (by omega) t2
  have uf:=g1.trans g2
  have ug:=uf.trans g3
  have J:∃f t4,fV hs (nm i,np) f/\Old t2 t4/\∀z,yJ (.ref s1.length) f t4=z->jR (eR ns c m sd s1.length (Au i) (some (.int y)) (Au a) (some (.str (nm i)))) t2=z.bind λ_ st=>.ok (.nx (eR ns c m sd s1.length (Au i) (some (.int y)) (Au a) (some (.str (nm i))))) st:=by
   by_cases h40:40<m
   ·have n0:np=0:=by rw [Be,zF h40]
    refine ⟨_,t3,S7 (hs:=hs) (h:=(nm i,np)) (aim:=nm a) n0 (by have:=bT a ha;rw [n0] at this;exact this),g3,λz hz=>?_⟩
    subst hz
    refine yR (yc (zp (zf rfl) rfl (lI true (by simp;omega) _))) ?_
    exact Hf (zf rfl) (uf _ _ h3) (zX (yL (zf rfl) (zX jt (by simp)) (zX (zT (zX jt (by simp)) (zX (yL rfl (zE (zT (zf rfl) (zf rfl)) f3) (zX jt (by simp))) (by simp))) (by simp))) (by simp))
   ·have n2:np=2:=by rw [Be,zP h40]
    obtain ⟨stp,as,t4,f4,cC,q_,Hh,g4⟩:=S5 y (nm a) t3
    refine ⟨_,t4,S6 (hs:=hs) (h:=(nm i,np)) (aim:=nm a) (cC hs) n2 (by rw [q_];have:=bT a ha;rw [n2] at this;exact this) Hh,g3.trans g4,λz hz=>?_⟩
    subst hz
    refine xS (yc (zp (zf rfl) rfl (lI false (by simp;omega) _))) ?_
    exact Hf (zf rfl) (uf _ _ h3) (zX (yL (zf rfl) (zX (zT rfl rfl) (by simp)) (zX (zT (zX jt (by simp)) (zE (zT (zf rfl) (zE (zT (zf rfl) (zf rfl)) f3)) f4)) (by simp))) (by simp))
  obtain ⟨f,t4,hf,g4,J⟩:=J
  have oU:=uf.trans g4
  have AP:=wz (y:=f) (oU _ _ h3) (by omega)
  have J':=J _ AP
  rw [zG] at J'
  refine ⟨eR ns c m sd s1.length (Au i) z6 z7 z8,_,_,rfl,zB (zN (zE (zT (zf rfl) (zp rfl (zp (zf rfl) rfl (jM i 50 (by decide))) (yZ 7 _))) f1)) (zB (zN (zp (zf rfl) rfl (yZ i 1))) (zB E (zB (zN (zE (zT (zf rfl) (zf rfl)) f2)) J'))),⟨_,_,_,_,rfl⟩,λk so hk e=>by rw [yo (yT hk)];exact oU _ _ (ob k so hk e),_,je (yk (oU _ _ h3)),λj h f' e1 e2=>?_,by simp [lK]⟩
  by_cases hj:j<fs.length
  ·rw [gi hj] at e2
   exact nr j h f' e1 e2
  ·rw [iU (by omega)] at e2
   have:j-fs.length=0:=by
    have:=(yt.mp e2).1
    simp at this
    omega
   rw [this] at e2
   cases e2
   have ji:j=i:=by omega
   rw [Hg j h e1,ji]
   exact hf) ⟨⟨none,none,none,none,rfl⟩,λ_ _ _ e=>e,[],yj _ _,(λj h f _ e=>by simp at e),rfl⟩
 subst he
 refine ⟨hs,fs,s3,yg rfl (zB (zN (e1 _ rfl)) (zB (zN (zp rfl (zp (zf rfl) rfl (jM c 12 (by decide))) (yZ 1 _))) (zB E2 (zB (zN (zp (zp rfl (zp (zp (zf rfl) rfl (g_ c 17 (by decide) (by decide))) rfl (jM _ 900000 (by decide))) (fX 4 _ (.inl (by decide)))) rfl ((yZ _ 2).trans (by rw [eS])))) (zB (zN (jh jt (by simp))) (zB F (yn (zE (zL (zf rfl)) (by rw [wm,yr h3]))))))))),⟨⟨by simp [hs];omega,λh hh=>?_⟩,by simp [hs,lK],by simp [hs];omega,?_,nr⟩,λk so e=>ob k so (by have:=yk (o1 _ _ e);omega) (zU _ _ _ _ (o1 _ _ e))⟩
 ·obtain ⟨k,_,rfl⟩:=jv.mp hh
  show np<=6
  rw [Be]
  split<;>omega
 ·rw [show hs.map (·.1)=(List.range m).map nm by simp [hs]]
  exact q8 (P:=λ_=>True) (λi j _ _ h=>M.one i j (λq=>absurd s4 q) h) List.nodup_range λ_ _=>trivial
noncomputable abbrev bS:Aj:=(zw (zH 7 (ze ya (zc 2) (ze jq (ze jq (Ar 4) (zc 5)) (ze zV (ze yO (zc 1) (Ar 12)) (Ar 2)))))
  (zw (zH 8 (jd (bP (zd (ze zv (zc 6) (Ar 1)) zo)) (zu wy (zd (zc 8) (zd (zc 0) zo)))))
  (yK (yF yJ (zc 4) (zC (zd (ze zv (zc 6) (Ar 0)) (zd (zu jx (zd (zc 8) zo)) (zd (zu (kC 6) (zd (zc 0) (zd (zc 5) (zd (Ar 1) (zd (zc 8) (zd (zc 3) (zd (zc 7) zo))))))) zo))))))))
def Ta {hs:List (Str×Nat)}{h:Str×Nat}:(c_ hs).set 0 (.tup [.str h.1,.int (h.2:Int)])=c_ (hs.set 0 h):=by unfold c_;rw [List.map_set]
def Tb {r:Nat}:∀{hs:List (Str×Nat)}(pos:0<hs.length),(hs.set 0 ((hs[0]'pos).1,r)).map (·.1)=hs.map (·.1)
 | [],pos=>absurd pos (by simp)
 | x::xs,pos=>rfl
theorem Tc (ns:List Int) (st:aa):∃hs fs s1,AK [.frl (ns.map PV.int)] st=.ok (.tup fs) s1/\m9 hs fs/\Old st s1:=by
 obtain ⟨c,s1,hc,o1,e1⟩:=qZ ns 0 (by decide) st
 obtain ⟨sd,s2,WC,o2,e2⟩:=qZ ns 1 (by decide) s1
 obtain ⟨nh,MH⟩:=A4 (c/12) (by omega)
 have h3:c%3<3:=jQ _ (by decide)
 obtain ⟨ys,s3,C,⟨hs,q1,q2,q3,q4⟩,o3⟩:=AW (fe:=(zC (zd (zu wy (zd (ze yO (zc 2) (Ar 12)) (zd (zc 0) zo))) (zd (ze zV (zu jr (zd (zc 1) (zd (ze ya (Ar 2) (zc 0)) zo))) (Ar 4)) zo)))) (fs:=(zd (ze ya (Ar 1) (ze zV (zc 1) (Ar 3))) zo)) (env:=[some (.frl (ns.map PV.int)),Au c,Au sd,none,none,none,none,none,none]) (st:=s2) (1+c%3) (by omega) (zL (zp rfl (zp (zf rfl) rfl (jM c 3 (by decide))) (yZ 1 _))) (λi ys s=>(∃hs:List (Str×Nat),ys=c_ hs/\hs.length=i/\(∀h∈hs,h.2<=6)/\hs.map (·.1)=(List.range i).map nh)/\Old s2 s) (λi ys s hi ⟨⟨hs,q1,q2,q3,q4⟩,o⟩=>by
  obtain ⟨t1,f1,g1⟩:=MH.at_ i (by omega) s
  obtain ⟨y,t2,f2,g2⟩:=iO ns (2+i) (by omega) t1
  obtain ⟨r,hr,er⟩:=bz y 4 (by decide)
  have er:yY y 4=(r:Int):=er
  refine ⟨.tup [.str (nh i),.int (r:Int)],t2,zX (zT (zE (zT (zp (zf rfl) rfl (g_ c 12 (by decide) (by decide))) (zf rfl)) f1) (zp (zE (zT (zf rfl) (zp rfl (zf rfl) (yZ 2 i))) f2) rfl ((jj _ _ (by decide)).trans (by rw [er])))) (by simp),⟨hs++[(nh i,r)],by rw [q1];simp [c_],by simp [q2],λh hh=>?_,by rw [ju,q4,o_,ju];rfl⟩,o.trans (g1.trans g2)⟩
  rcases wu.mp hh with q|q
  ·exact q3 h q
  ·rw [jN.mp q];show r<=6;omega) ⟨⟨[],rfl,rfl,(λ_ h=>nomatch h),rfl⟩,Old.refl _⟩
 let s4:=s3++[SO.lst ys]
 have h4:s4[s3.length]?=some (.lst (c_ hs)):=by rw [<-q1];exact yj _ _
 have o4:Old s2 s4:=o3.trans (zU _ _)
 have pos:0<hs.length:=by omega
 have K:∃(fg:List (Str×Nat)) (s5:aa),(zY (mB (ze ye (ze zV (ze yO (zc 1) (Ar 3)) (Ar 4)) (Ar 1)))
  (mP (zc 3) (Ar 0) (zC (zd (ze zv (ze zv (zc 3) (Ar 0)) (Ar 0)) (zd (ze zV (zu jr (zd (zc 0) (zd (Ar 2) zo))) (Ar 7)) zo))))
  yd) [some (.frl (ns.map PV.int)),Au c,Au sd,At s3.length,none,none,none,none,none] s4=.ok (.nx [some (.frl (ns.map PV.int)),Au c,Au sd,At s3.length,none,none,none,none,none]) s5/\s5[s3.length]?=some (.lst (c_ fg))/\Hs fg/\fg.length<=3/\fg.map (·.1)=hs.map (·.1)/\(∀(k:Nat) so,k<s3.length->s4[k]?=some so->s5[k]?=some so):=by
  by_cases h1:c/3%4=1
  ·obtain ⟨y,t1,f1,g1⟩:=iO ns 2 (by decide) s4
   obtain ⟨r,hr,er⟩:=bz y 7 (by decide)
   have er:yY y 7=(r:Int):=er
   have hA:=A7 (i:=0) h4 pos
   have P:=G4 (fo:=zc 3) (fi:=Ar 0) (fv:=(zC (zd (ze zv (ze zv (zc 3) (Ar 0)) (Ar 0)) (zd (ze zV (zu jr (zd (zc 0) (zd (Ar 2) zo))) (Ar 7)) zo)))) (e:=[some (.frl (ns.map PV.int)),Au c,Au sd,At s3.length,none,none,none,none,none]) (s:=s4) (i:=0) (zX (zT (zp (zp (zf rfl) rfl hA) rfl yN) (zp (zE (zT (zf rfl) rfl) f1) rfl ((jj _ _ (by decide)).trans (by rw [er])))) (by simp)) (zf rfl) rfl (g1 _ _ h4) (by simp;omega)
   refine ⟨hs.set 0 ((hs[0]'pos).1,r),_,yR (yc (zp (zp (zp (zf rfl) rfl (g_ c 3 (by decide) (by decide))) rfl (jM _ 4 (by decide))) rfl (bq true (by simp;omega) _))) P,?_,⟨by simp;omega,λh hh=>?_⟩,by simp;omega,Tb pos,λk so hk e=>?_⟩
   ·rw [je (yk (g1 _ _ h4)),<-Ta]
   ·rcases List.mem_or_eq_of_mem_set hh with q|q
    ·exact q3 h q
    ·rw [q];show r<=6;omega
   ·rw [yo (by omega)]
    exact g1 _ _ e
  ·exact ⟨hs,s4,yD (yc (zp (zp (zp (zf rfl) rfl (g_ c 3 (by decide) (by decide))) rfl (jM _ 4 (by decide))) rfl (bq false (by simp;omega) _))),h4,⟨pos,q3⟩,by omega,rfl,λ_ _ _ e=>e⟩
 obtain ⟨fg,s5,E5,h5,H,WD,Hi,Td⟩:=K
 let s6:=s5++[SO.lst []]
 have h6:s6[s3.length]?=some (.lst (c_ fg)):=zU _ _ _ _ h5
 have WE:=yk h5
 obtain ⟨e',s7,F,⟨z5,z6,z7,z8,he⟩,ob,fs,h7,nr,lK⟩:=G5 (g:=g2 5 6) (body:=bS) (n:=s3.length) (c_ fg) (λi e s=>(∃z5 z6 z7 z8,e=[some (.frl (ns.map PV.int)),Au c,Au sd,At s3.length,At s5.length,z5,z6,z7,z8])/\(∀(k:Nat) so,k≠s5.length->s6[k]?=some so->s[k]?=some so)/\∃fs,s[s5.length]?=some (.lst fs)/\(∀(j:Nat) h f,fg[j]?=some h->fs[j]?=some f->fV fg h f)/\fs.length=i) (λi e s h=>h.2.1 _ _ (by omega) h6) (λi x e s hx ⟨⟨z5,z6,z7,z8,he⟩,ob,fs,h7,nr,lK⟩=>by
  subst he
  have hi:i<fg.length:=by have:=(yt.mp hx).1;simpa using this
  rw [yM,yx hi] at hx
  cases hx
  have fw:=H.few _ (wV hi)
  have Hj:fg[i]?=some (fg[i]'hi):=yx hi
  generalize fg[i]'hi=hh at fw Hj
  have Bf:c/12%2<2:=jQ _ (by decide)
  obtain ⟨nm,M⟩:=A4 (sd+4*i*(c/12%2)) (by
   have:4*i*(c/12%2)<=12*1:=Nat.mul_le_mul (by omega) (by omega)
   omega)
  generalize eO:sd+4*i*(c/12%2)=own at M
  obtain ⟨us,t1,C1,q1,g1⟩:=AW (fe:=(zu wy (zd (zc 8) (zd (zc 0) zo)))) (fs:=(zd (ze zv (zc 6) (Ar 1)) zo)) (env:=[some (.frl (ns.map PV.int)),Au c,Au sd,At s3.length,At s5.length,Au i,some (.tup [.str hh.1,.int (hh.2:Int)]),Au own,z8]) (st:=s) hh.2 (by omega) (zL (zp (zf rfl) rfl js)) (λj us s'=>us=((List.range j).map nm).map PV.str/\Old s s') (λj us s' hj ⟨g1,g2⟩=>by
   obtain ⟨pI,Te,Tf⟩:=M.at_ j (by omega) s'
   exact ⟨_,pI,zE (zT (zf rfl) (zf rfl)) Te,by rw [g1];simp [o_],g2.trans Tf⟩) ⟨rfl,Old.refl _⟩
  let t2:=t1++[SO.lst us]
  have g2:Old s t2:=g1.trans (zU _ _)
  have hu:t2[t1.length]?=some (.lst (((List.range hh.2).map nm).map PV.str)):=by rw [<-q1];exact yj _ _
  have tu:jx [.ref t1.length] t2=.ok (.tup (((List.range hh.2).map nm).map PV.str)) t2:=by rw [wm,yr hu]
  obtain ⟨bv,t3,ls,dd,is,E3,g3,B,hd2,_,_,G8,_,_,cI,Tg,sU⟩:=SI M H ns i (by omega) 6 1 (by decide) (by decide) (by decide) (by decide) (by decide) ((List.range hh.2).map nm) t1.length s3.length t2 (by simp;omega) hu (g2 _ _ (ob _ _ (by omega) h6))
  have ug:=g2.trans g3
  have AP:=wz (y:=.tup [.str hh.1,.tup (((List.range hh.2).map nm).map PV.str),bv]) (ug _ _ h7) (by omega)
  refine ⟨[some (.frl (ns.map PV.int)),Au c,Au sd,At s3.length,At s5.length,Au i,some (.tup [.str hh.1,.int (hh.2:Int)]),z7,z8],_,_,rfl,zB (zN (zp (zf rfl) (zp (zp rfl (zf rfl) (fX 4 i (.inl (by decide)))) (zp (zp (zf rfl) rfl (g_ c 12 (by decide) (by decide))) rfl (jM _ 2 (by decide))) (fX _ _ (.inr (by omega)))) ((yZ sd _).trans (by rw [eO])))) (zB (zN C1) (jW (jL (zf rfl) (g2 _ _ h7) (zX (yL (zp (zf rfl) rfl yN) (zE (zL (zf rfl)) tu) (zE (wQ (zf rfl) (wQ (zf rfl) (wQ rfl (yL (zf rfl) (zf rfl) (zf rfl))))) E3)) (by simp)) AP))),⟨_,_,_,_,rfl⟩,λk so hk e=>by rw [yo (yT hk)];exact ug _ _ (ob k so hk e),_,je (yk (ug _ _ h7)),λj h f' k1 k2=>?_,by simp [lK]⟩
  by_cases hj:j<fs.length
  ·rw [gi hj] at k2
   exact nr j h f' k1 k2
  ·rw [iU (by omega)] at k2
   have j0:j-fs.length=0:=by
    have:=(yt.mp k2).1
    simp at this
    omega
   rw [j0] at k2
   cases k2
   have ji:j=i:=by omega
   rw [ji,Hj] at k1
   cases k1
   refine ⟨_,is.map nm,ls,dd,⟨⟨bv,rfl,B⟩,cI,?_,by omega,by omega,by simp;omega⟩,by simp⟩
   rw [<-ju]
   refine q8 (P:=λj=>j<20) (λa b ha hb h=>M.one a b (λ_=>⟨ha,hb⟩) h) ?_ λj hj=>?_
   ·rw [List.nodup_append]
    refine ⟨List.nodup_range,Tg,λa ha b hb e=>?_⟩
    subst e
    have:=gj.mp ha
    have:=(sU a hb).1
    omega
   ·rcases wu.mp hj with q|q
    ·have:=gj.mp q
     show j<20
     omega
    ·exact (sU j q).2.1) (c_ fg).length 0 (lim+1) [some (.frl (ns.map PV.int)),Au c,Au sd,At s3.length,At s5.length,none,none,none,none] s6 (by omega) (by simp [lim];omega) ⟨⟨none,none,none,none,rfl⟩,λ_ _ _ e=>e,[],yj _ _,(λj h f _ e=>by simp at e),rfl⟩
 subst he
 have FO:(oA (zd (zc 3) zo) (g2 5 6) bS) [some (.frl (ns.map PV.int)),Au c,Au sd,At s3.length,At s5.length,none,none,none,none] s6=.ok (.nx [some (.frl (ns.map PV.int)),Au c,Au sd,At s3.length,At s5.length,z5,z6,z7,z8]) s7:=by
  unfold oA
  rw [zL (zf rfl),zG]
  show (yi s6 s3.length _).bind _=_
  rw [yr h6,zG]
  exact F
 rw [yI] at lK
 refine ⟨fg,fs,s7,yg rfl (zB (zN (e1 _ rfl)) (zB (zN (e2 _ rfl)) (zB (zN C) (zB E5 (zB (zN (jh jt (by simp))) (zB FO (yn (zE (zL (zf rfl)) (by rw [wm,yr h7]))))))))),⟨H,lK,by omega,by rw [Hi,q4];exact q8 (P:=λj=>j<20) (λa b ha hb h=>MH.one a b (λ_=>⟨ha,hb⟩) h) List.nodup_range λj hj=>(by have:=gj.mp hj;show j<20;omega),nr⟩,λk so e=>?_⟩
 have w2:=o2 _ _ (o1 _ _ e)
 have w4:=o4 _ _ w2
 have kl:=yk (o3 _ _ w2)
 exact ob k so (by omega) (zU _ _ _ _ (Td k so kl w4))
theorem Th (ns:List Int) (st:aa):∃hs fs s1,AL [.frl (ns.map PV.int)] st=.ok (.tup fs) s1/\m9 hs fs/\Old st s1:=by
 obtain ⟨y,s1,e1,o1⟩:=iO ns 5 (by decide) st
 obtain ⟨w,hw,ew⟩:=bz y 8 (by decide)
 have ew:yY y 8=(w:Int):=ew
 have A:∀{X:Res Fl},GB [some (.frl (ns.map PV.int)),Au w] s1=X->GC [some (.frl (ns.map PV.int)),none] st=X:=λh=>zB (zN (zp (zE (zT (zf rfl) rfl) e1) rfl ((jj _ _ (by decide)).trans (by rw [ew])))) h
 have sk:∀{g h:Aj} {n:Int} {X:Res Fl},(w:Int)≠n->h [some (.frl (ns.map PV.int)),Au w] s1=X->zw (zY (mB (ze ye (zc 1) (Ar n))) g yd) h [some (.frl (ns.map PV.int)),Au w] s1=X:=λhn h=>zB (yD (yc (zp (zf rfl) rfl (bq false (by simpa using hn) _)))) h
 have tk:∀{f:Ai} {h:Aj} {n:Int} {v:PV} {s2:aa},(w:Int)=n->f [some (.frl (ns.map PV.int)),Au w] s1=.ok v s2->zw (zY (mB (ze ye (zc 1) (Ar n))) (yb f) yd) h [some (.frl (ns.map PV.int)),Au w] s1=.ok (.rt v) s2:=λhn h=>jV (yR (yc (zp (zf rfl) rfl (bq true (by simpa using hn) _))) (yn h))
 by_cases c6:w=6
 ·obtain ⟨hs,fs,s2,e2,h1,o2⟩:=SU ns s1
  exact ⟨hs,fs,s2,yg rfl (A (tk (by omega) (zE (zL (zf rfl)) e2))),h1,o1.trans o2⟩
 by_cases c7:w=7
 ·obtain ⟨hs,fs,s2,e2,h1,o2⟩:=S9 ns s1
  exact ⟨hs,fs,s2,yg rfl (A (sk (by omega) (tk (by omega) (zE (zL (zf rfl)) e2)))),h1,o1.trans o2⟩
 by_cases c5:w=5
 ·obtain ⟨hs,fs,s2,e2,h1,o2⟩:=S0 ns s1
  exact ⟨hs,fs,s2,yg rfl (A (sk (by omega) (sk (by omega) (tk (by omega) (zE (zL (zf rfl)) e2))))),h1,o1.trans o2⟩
 ·obtain ⟨hs,fs,s2,e2,h1,o2⟩:=Tc ns s1
  exact ⟨hs,fs,s2,yg rfl (A (sk (by omega) (sk (by omega) (sk (by omega) (yn (zE (zL (zf rfl)) e2)))))),h1,o1.trans o2⟩
noncomputable def aM:List Bool->Int
 | []=>0
 | b::r=>(if b then 1 else 0)+2*aM r
theorem uh:∀l,0<=aM l
 | []=>by simp [aM]
 | b::r=>by have:=uh r;simp only [aM];split<;>omega
theorem Bh:∀(l:List Bool) (b:Bool),aM (l++[b])=aM l+(if b then 2 ^ l.length else 0)
 | [],b=>by simp [aM]
 | a::r,b=>by
  simp only [List.cons_append,aM,Bh r b,jP]
  cases b<;>simp [Int.pow_succ]<;>omega
theorem Bi:∀l,aM l<2 ^ l.length
 | []=>by simp [aM]
 | b::r=>by
  have:=Bi r
  simp only [aM,jP,Int.pow_succ]
  split<;>omega
theorem Ti (x:Int) (i:Nat) (h0:0<=x) (h:x<2 ^ i):Builtin.bitOr x (1*2 ^ i)=x+2 ^ i:=by
 rw [PyProof.Rows.bitOr_and]
 have hp:(0:Int)<=2 ^ i:=Int.pow_nonneg (by decide)
 have e:Builtin.bitAnd x (1*2 ^ i)=0:=by
  rw [Int.one_mul]
  unfold Builtin.bitAnd
  rw [wc h0,wc hp]
  show ((x.toNat &&& ((2:Int) ^ i).toNat:Nat):Int)=0
  have e2:((2:Int) ^ i).toNat=2 ^ i:=by
   have:((2:Int) ^ i)=((2 ^ i:Nat):Int):=by simp
   rw [this,Int.toNat_natCast]
  rw [e2]
  have hx:x.toNat<2 ^ i:=by
   have:((x.toNat:Nat):Int)<((2 ^ i:Nat):Int):=by rw [Int.toNat_of_nonneg h0];simpa using h
   exact_mod_cast this
  have hz:x.toNat &&& 2 ^ i=0:=by
   apply Nat.eq_of_testBit_eq
   intro j
   rw [Nat.testBit_and,Nat.testBit_two_pow,Nat.zero_testBit]
   by_cases cq:i=j
   ·subst cq;rw [Nat.testBit_lt_two_pow hx];rfl
   ·simp [cq]
  rw [hz];rfl
 rw [e]
 omega
theorem Tj (l:List Bool) (n:Nat) (st:aa) (hn:st[n]?=some (.lst (l.map PV.bl))) (v0:Ao):∀(k i m:Nat) (v2 v3:Ao),l.length-i=k->i<=l.length->k<m->l.length<=1000 ->
  ∃Tn To,d8 (g2 2 3) (zY (mB (zc 3)) (zH 1 (ze qp (zc 1) (ze kn (Ar 1) (zc 2)))) yd) n m i [v0,some (.int (aM (l.take i))),v2,v3] st=.ok (.nx [v0,some (.int (aM l)),Tn,To]) st:=by
 intro k
 induction k with
 | zero =>
  intro i m v2 v3 hk hi hm hl
  obtain ⟨m',rfl⟩:∃m',m=m'+1:=⟨m-1,by omega⟩
  have i9:i=l.length:=by omega
  subst i9
  refine ⟨v2,v3,?_⟩
  simp [d8,yi,hn]
 | succ k ih =>
  intro i m v2 v3 hk hi hm hl
  obtain ⟨m',rfl⟩:∃m',m=m'+1:=⟨m-1,by omega⟩
  have bj:i<l.length:=by omega
  have ht:l.take (i+1)=l.take i++[l[i]]:=(List.take_append_getElem bj).symm
  obtain ⟨w2,w3,e⟩:=ih (i+1) m' (some (.int i)) (some (.bl l[i])) (by omega) (by omega) (by omega) hl
  refine ⟨w2,w3,?_⟩
  rw [<-e]
  have hb:=uh (l.take i)
  have Hk:=Bi (l.take i)
  have hlen:(l.take i).length=i:=by simp;omega
  rw [hlen] at Hk
  have hv:aM (l.take (i+1))=aM (l.take i)+(if l[i] then 2 ^ i else 0):=by rw [ht,Bh,hlen]
  have gI:(l.map PV.bl)[i]?=some (.bl l[i]):=by simp [bj]
  conv=>lhs;unfold d8
  simp only [yi,hn,gI,OQ]
  cases hbi:l[i] with
  | true =>
   rw [hbi] at hv
   have ho:=Ti _ i hb Hk
   rw [Int.one_mul] at ho
   have hc:dC 1 (i:Int)=true:=by
    simp [dC]
    omega
   simp [hc,ho,hv]
  | false =>
   rw [hbi] at hv
   simp at hv
   simp [hv]
theorem Hl (l:List Bool) (hl:l.length<=1000) (n:Nat) (st:aa) (hn:st[n]?=some (.lst (l.map PV.bl))):qN [.ref n] st=.ok (.int (aM l)) st:=by
 obtain ⟨w2,w3,e⟩:=Tj l n st hn (At n) l.length 0 (lim+1) none none rfl (jB _) (by show l.length<1000000+1;omega) hl
 simp only [List.take_zero,aM] at e
 simp [qN,yq,GH,GG,GD,yi,hn,e]
theorem Hm:∀(dR:Nat) {v:PV}{ls:An}{dd:Nat}{st:aa},Bk v ls dd->dd<dR->ls.length<=100000->lF dR [v] st=.ok (.tup ls) st:=by
 intro dR
 induction dR with
 | zero=>intro v ls dd st _ h;omega
 | succ dR ih =>
  intro v ls dd st B hd hl
  show AR (lF dR) [v] st=_
  cases B with
  | leaf ss e hE =>
   obtain ⟨w,r,rfl,_,_,hw⟩:=hE
   simp at hl
   exact yg rfl (zB (zN (zp (zf rfl) rfl js)) (zB (zN (zp (zp (zf rfl) rfl yN) (zX (zL (zf rfl)) (by simp)) (tX (by simp;omega)))) (zB (yD (yc (zp (zp (zf rfl) rfl yN) rfl (dG hw _)))) (yn (zf rfl)))))
  | node ss va v1 v2 l1 l2 d1 d2 B1 B2 =>
   simp at hl
   have e1:=ih (st:=st) B1 (by omega) (by omega)
   have e2:=ih (st:=st) B2 (by omega) (by omega)
   exact yg rfl (zB (zN (zp (zf rfl) rfl js)) (zB (zN (zp (zp (zf rfl) rfl yN) (zX (zL (zf rfl)) (by simp)) (tX (by simp;omega)))) (jV (yR (yc (zp (zp (zf rfl) rfl yN) rfl (fY _))) (yn (zp (zp (zf rfl) (zE (zL (zp (zf rfl) rfl wT)) e1) (tX (by simp;omega))) (zE (zL (zp (zf rfl) rfl iN)) e2) (tX (by simp;omega))))))))
noncomputable abbrev tL:Ak:=(mB (ze iE (zu yS (zd (zc 2) zo)) (Ar 0)))
noncomputable abbrev iL:Aj:=(zY (mB (ze ye (ze zv (zc 4) (Ar 0)) (As "if")))
  (zH 2 (ze ya (yU (zd (ze zv (zc 4) (Ar 2)) (zd (ze zv (zc 4) (Ar 3)) zo))) (zc 2)))
  yd)
noncomputable abbrev nu:Aj:=(zw (qh (g2 3 4) (yF tq (zc 2) (Ar 0)))
  (zw (yK (yF tD (zc 1) (zc 3)))
  (zw (yK (yF yJ (zc 1) (zc 4)))
  iL)))
def Tp {s:aa}{n:Nat}{xs ys:An}(h:s[n]?=some (.lst xs)) (hl:xs.length+ys.length<=1000000):tD (.ref n) (.tup ys) s=.ok .non (s.set n (.lst (xs++ys))):=by
 show yi s n _=_
 rw [yr h]
 exact zF (by simpa [lim] using hl)
def Tq {s:aa}{n:Nat}{y:PV}{r:An}(h:s[n]?=some (.lst (y::r))):tq (.ref n) (.int 0) s=.ok y (s.set n (.lst r)):=by
 show yi s n _=_
 rw [yr h]
theorem Hn {s:aa}{t r:Nat}{W rows ss:An}{ve:PV}{x0 x3 x4:Ao}(ht:s[t]?=some (.lst (.tup [.tup ss,ve]::W))) (hr:s[r]?=some (.lst rows)) (ne:r≠t) (hl:rows.length+ss.length+1<=1000000) :
  ∃s5,(∀X,iL [x0,At r,At t,some (.tup ss),some ve] s5=X->nu [x0,At r,At t,x3,x4] s=X)/\s5[t]?=some (.lst W)/\s5[r]?=some (.lst (rows++ss++[ve]))/\s5.length=s.length/\(∀(m:Nat) so,m≠r->m≠t->s[m]?=some so->s5[m]?=some so):=by
 let s1:=s.set t (SO.lst W)
 have Bj:s1[r]?=some (.lst rows):=by rw [yo (yT ne)];exact hr
 let s2:=s1.set r (SO.lst (rows++ss))
 have Bl:s2[r]?=some (.lst (rows++ss)):=je (yk Bj)
 have E:=Tp (ys:=ss) Bj (by omega)
 have A:=Su (y:=ve) Bl (by simp;omega)
 refine ⟨s2.set r (.lst (rows++ss++[ve])),λX h=>zB (So (jL (zf rfl) ht rfl (Tq ht))) (zB (jW (jL (zf rfl) Bj (zf rfl) E)) (zB (jW (jL (zf rfl) Bl (zf rfl) A)) h)),?_,je (yk Bl),by simp [s2,s1],λm so q1 q2 e=>?_⟩
 ·rw [yo ne,yo ne,je (yk ht)]
 ·rw [yo (yT q1),yo (yT q1),yo (yT q2)];exact e
def Ho {fuel:Nat}{e e':zm}{s s':aa}(ht:tL e s=.ok true s) (h:nu e s=.ok (.nx e') s'):bZ tL nu (fuel+1) e s=bZ tL nu fuel e' s':=by
 rw [qk,ht,zG,zF rfl,h,zG]
theorem Hq {s:aa}{t:Nat}{W:An}{x:PV}{x0 x1 x3 x4:Ao}(h:s[t]?=some (.lst (x::W))):tL [x0,x1,At t,x3,x4] s=.ok true s:=by
 have L:=w6 h
 exact yc (zp (zE (zL (zf rfl)) L) rfl (lI true (by rw [nS,jP];omega) _))
theorem Tr {v:PV}{ls:An}{dd:Nat}(B:Bk v ls dd):∃nb,nb<=ls.length/\∀(fuel:Nat) (s:aa) (t r:Nat) (W rows:An) (x0 x3 x4:Ao),s[t]?=some (.lst (v::W))->s[r]?=some (.lst rows)->r≠t->W.length+dd<=1000->rows.length+ls.length<=100000->∃s' t' Ts Tt,bZ tL nu (fuel+nb) [x0,At r,At t,x3,x4] s=bZ tL nu fuel [x0,At r,At t',Ts,Tt] s'/\s'[t']?=some (.lst W)/\s'[r]?=some (.lst (rows++ls))/\(∀(m:Nat) so,m≠r->m≠t->s[m]?=some so->s'[m]?=some so)/\(t'=t\/s.length<=t')/\r≠t'/\s.length<=s'.length:=by
 induction B with
 | leaf ss e hE =>
  obtain ⟨w,r0,rfl,_,_,hw⟩:=hE
  refine ⟨1,by simp,λfuel s t r W rows x0 x3 x4 ht hr ne hW hl=>?_⟩
  simp at hl
  obtain ⟨s5,G,g1,g2,g3,g4⟩:=Hn (x0:=x0) (x3:=x3) (x4:=x4) ht hr ne (by omega)
  exact ⟨s5,t,_,_,Ho (Hq ht) (G _ (yD (yc (zp (zp (zf rfl) rfl yN) rfl (dG hw _))))),g1,by rw [<-kK];exact g2,g4,.inl rfl,ne,by omega⟩
 | node ss va v1 v2 l1 l2 d1 d2 B1 B2 Tu Tv =>
  obtain ⟨n1,k1,F1⟩:=Tu
  obtain ⟨n2,k2,F2⟩:=Tv
  refine ⟨n2+n1+1,by simp;omega,λfuel s t r W rows x0 x3 x4 ht hr ne hW hl=>?_⟩
  simp at hl
  obtain ⟨s5,G,g1,g2,g3,g4⟩:=Hn (x0:=x0) (x3:=x3) (x4:=x4) ht hr ne (by omega)
  let s6:=s5++[SO.lst [v1,v2]]
  let s7:=s6++[SO.lst ([v1,v2]++W)]
  have o7:Old s5 s7:=(zU _ _).trans (zU _ _)
  have A:ya (.ref s5.length) (.ref t) s6=.ok (.ref s6.length) s7:=oP (yj _ _) (zU _ _ _ _ g1) (by simp;omega)
  have l6:s6.length=s5.length+1:=by simp [s6]
  have l7:s7.length=s5.length+2:=by simp [s7,s6]
  have rl:=yk g2
  have st:=Ho (fuel:=fuel+n2+n1) (Hq ht) (G _ (yR (yc (zp (zp (zf rfl) rfl yN) rfl (fY _))) (zN (zp (jh (zT (zp (zf rfl) rfl wT) (zp (zf rfl) rfl iN)) (by simp)) (zf rfl) A))))
  obtain ⟨s8,t8,y3,y4,E1,p1,p2,p3,p4,p5,p6⟩:=F1 (fuel+n2) s7 s6.length r (v2::W) _ x0 _ _ (yj _ _) (o7 _ _ g2) (by omega) (by simp;omega) (by simp;omega)
  obtain ⟨s9,t9,z3,z4,E2,q1,q2,q3,q4,q5,q6⟩:=F2 fuel s8 t8 r W _ x0 _ _ p1 p2 p5 (by omega) (by simp;omega)
  refine ⟨s9,t9,z3,z4,?_,q1,by rw [q2];simp,λm so m1 m2 e=>?_,?_,q5,by omega⟩
  ·rw [show fuel+(n2+n1+1)=fuel+n2+n1+1 by omega]
   exact (st.trans E1).trans E2
  ·have ml:=yk e
   have w5:=o7 _ _ (g4 m so m1 m2 e)
   exact q3 m so m1 (by rcases p4 with h|h<;>omega) (p3 m so m1 (by omega) w5)
  ·right
   rcases q4 with h|h
   ·rw [h];rcases p4 with h|h<;>omega
   ·omega
theorem Bm {v:PV}{ls:An}{dd:Nat}(B:Bk v ls dd) (hd:dd<=900) (hl:ls.length<=100000) (st:aa):∃r s1,kD [v] st=.ok (.ref r) s1/\s1[r]?=some (.lst ls)/\Old st s1:=by
 obtain ⟨nb,hnb,F⟩:=Tr B
 let s0:=st++[SO.lst []]
 let s1:=s0++[SO.lst [v]]
 have l0:s0.length=st.length+1:=by simp [s0]
 have ln:lim=1000000:=rfl
 obtain ⟨s2,t2,y3,y4,E,p1,p2,p3,p4,p5,p6⟩:=F (lim-nb) s1 s0.length st.length [] [] (some v) none none (yj _ _) (zU _ _ _ _ (yj _ _)) (by omega) (by simp;omega) (by simp;omega)
 have e1:lim-nb+nb=lim:=by omega
 rw [e1] at E
 obtain ⟨f,hf⟩:∃f,lim-nb=f+1:=⟨lim-nb-1,by omega⟩
 have L:=w6 p1
 have T:tL [some v,At st.length,At t2,y3,y4] s2=.ok false s2:=yc (zp (zE (zL (zf rfl)) L) rfl (lI false (by simp) _))
 have E2:bZ tL nu (lim-nb) [some v,At st.length,At t2,y3,y4] s2=.ok (.nx [some v,At st.length,At t2,y3,y4]) s2:=by
  rw [hf,qk,T,zG,zP (by simp)]
 exact ⟨st.length,s2,yg rfl (zB (zN (jh jt (by simp))) (zB (zN (jh (zL (zf rfl)) (by simp))) (zB (E.trans E2) (yn (zf rfl))))),p2,λm so e=>p3 m so (by have:=yk e;omega) (by have:=yk e;omega) (zU _ _ _ _ (zU _ _ _ _ e))⟩
noncomputable def rd:PV->Str
 | .tup (.str w::_)=>w
 | _ => ""
noncomputable def d9 (w:PV):Bool:=decide (rd w = "let" \/ rd w = "call")
def Tw {hs:List (Str×Nat)}{ks:Ad}{z:Str}{s:PV}(h:cL hs ks z s):d9 s=true:=by
 cases h with
 | let_ o n as=>simp only [d9,rd,true_or,decide_true]
 | call f as=>simp only [d9,rd,or_true,decide_true]
def Hr {e:PV}(h:nQ e):d9 e=false:=by
 obtain ⟨w,r,rfl,h1,h2⟩:=h
 simp only [d9,rd,h1,h2,wt,decide_false]
theorem Ht {hs:List (Str×Nat)}{s:PV}{ks:Ad}{z:Str}(h:cL hs ks z s) (st:aa):lG [s] st=.ok (.bl true) st:=by
 have key:∀(w:Str) (r:An),((("let" : Str)==w)||(("call" : Str)==w))=true->lG [.tup (.str w::r)] st=.ok (.bl true) st:=λw r hc=>yg rfl (yn (zp (zp (zf rfl) rfl yN) (zX (zT rfl rfl) (by simp)) (oQ w true hc st)))
 cases h with
 | let_ o n as=>exact key _ _ (by decide +kernel)
 | call f as=>exact key _ _ (by decide +kernel)
def Tx {e:PV}(h:nQ e) (st:aa):lG [e] st=.ok (.bl false) st:=by
 obtain ⟨w,r,rfl,h1,h2⟩:=h
 exact yg rfl (yn (zp (zp (zf rfl) rfl yN) (zX (zT rfl rfl) (by simp)) (oQ w false (by simp [yT h1,yT h2]) st)))
def Bn {hs:List (Str×Nat)}{ks:Ad}{z:Str}{v:PV}(h:cL hs ks z v) (s:aa):zv v (.int 1) s=.ok (.str z) s:=by
 cases h with
 | let_ o n as=>exact js
 | call f as=>exact js
theorem Hu:∀zs:Ad,bo (zs.map PV.str)=true
 | []=>rfl
 | z::zs=>by simp [bo,Mi.plain,Hu zs]
theorem Hv:∀zs:Ad,cg (zs.map PV.str)=0
 | []=>rfl
 | z::zs=>by simp [cg,dep,Hv zs]
def Tz (z:Str) (zs:Ad):(zs.map PV.str).any (λy=>a_ y (.str z))=decide (z∈zs):=by
 simp only [List.any_map,Function.comp_def,a_]
 rw [Bool.eq_iff_iff,List.any_eq_true,nS]
 constructor
 ·rintro ⟨x,hx,e⟩
  rw [beq_iff_eq] at e
  exact e▸hx
 ·intro h
  exact ⟨z,h,by simp⟩
theorem Bo {α:Type}:∀{ks:Ad}{xs:List α}{j:Nat}{z:Str}{x:α},ks.Nodup->ks[j]?=some z->xs[j]?=some x->(ks.zip xs).lookup z=some x
 | [],_,_,_,_,_,h,_=>by simp at h
 | _::_,[],_,_,_,_,_,h=>by simp at h
 | k::ks,y::xs,0,z,x,_,h,h'=>by
  simp at h h'
  subst h h'
  simp [wW]
 | k::ks,y::xs,j+1,z,x,nd,h,h'=>by
  rw [jH] at nd
  simp at h h'
  have ne:(z==k)=false:=by
   rw [beq_eq_false_iff_ne]
   intro e
   exact nd.1 (e▸wb h)
  rw [List.zip_cons_cons,wW,ne]
  exact Bo nd.2 h h'
theorem Hw {α:Type}{z:Str}:∀{ks:Ad}{xs:List α},z∉ks->(ks.zip xs).lookup z=none
 | [],_,_=>by simp
 | _::_,[],_=>by simp
 | k::ks,x::xs,h=>by
  have ne:(z==k)=false:=by
   rw [beq_eq_false_iff_ne]
   intro e
   exact h (by rw [e];exact y0 ..)
  rw [List.zip_cons_cons,wW,ne]
  exact Hw λhm=>h (jm _ hm)
def TC {s:aa}{d:Nat}{ks:Ad}{xs:An}{z:Str}{b:Bool}(h:s[d]?=some (.dic ks xs)) (hb:((ks.zip xs).lookup z).isSome=b):yH false (.str z) (.ref d) s=.ok (.bl b) s:=by
 simp [yH,h,hb]
def TF {fa fb:Ai}{e:zm}{st s1:aa}(h:fa e st=.ok (.bl false) s1):wY fa fb e st=.ok (.bl false) s1:=by
 rw [D_,h,zG,qj,zG,zP (by simp)]
noncomputable def aK (L:Ad):PV->Bool
 | .tup [.str w,.str z]=>decide (w = "of")&&decide (z∈L)
 | _=>false
theorem Hx:("is" : Str) ≠ "of" := by decide +kernel
def Bp (L:Ad) (z:Str):aK L (.tup [.str "of", .str z])=decide (z∈L):=by simp [aK]
def Bq (L:Ad) (v:PV):aK L (.tup [.str "is", v])=false:=by
 cases v with
 | str z=>simp [aK,Hx]
 | _=>rfl
def TH {z:Str}{L:Ad}{xs:An}(hl:L.length=xs.length):((L.zip xs).lookup z).isSome=decide (z∈L):=by
 by_cases h:z∈L
 ·rw [wc h]
  induction L generalizing xs with
  | nil=>cases h
  | cons y r ih =>
   cases xs with
   | nil=>simp at hl
   | cons x xs =>
    rw [List.zip_cons_cons,wW]
    by_cases e:z=y
    ·simp [e]
    ·have e':(z==y)=false:=by simpa using e
     rw [e']
     exact ih (by simpa using hl) ((yC.mp h).resolve_left e)
 ·rw [Hw h,jU h];rfl
theorem TJ {s:aa}{n:Nat}{L:Ad}{z:Str}(h:s[n]?=some (.lst (L.map PV.str))):yH false (.str z) (.ref n) s=.ok (.bl (decide (z∈L))) s:=by
 simp only [yH,h]
 rw [zF ⟨rfl,Hu L,by rw [Hv];omega⟩,Tz,Bool.false_xor]
def nv (L:Ad) (s:aa) (d:Nat):Prop:=(∃xs,s[d]?=some (.dic L xs)/\L.length=xs.length)\/s[d]?=some (.lst (L.map PV.str))
def TK {L:Ad}{s:aa}{d:Nat}{z:Str}(h:nv L s d):yH false (.str z) (.ref d) s=.ok (.bl (decide (z∈L))) s:=by
 rcases h with ⟨xs,h,hl⟩|h
 ·exact TC h (TH hl)
 ·exact TJ h
def Hy {ks:Ad} {a:PV} (h:cv ks a) {L:Ad} {s:aa} {d:Nat} (hd:nv L s d) {e:zm} {i:Nat} (h0:e[0]?=some (some a)) (hi:e[i]?=some (At d)):wY (ze ye (ze zv (zc 0) (Ar 0)) (As "of")) (ze (yH false) (ze zv (zc 0) (Ar 1)) (zc i)) e s=.ok (.bl (aK L a)) s:=by
 cases h with
 | of z hz=>rw [Bp];exact qH (zp (zp (zf h0) rfl yN) rfl (fY _)) (zp (zp (zf h0) rfl js) (zf hi) (TK hd))
 | is v=>rw [Bq];exact TF (zp (zp (zf h0) rfl yN) rfl (dG Hx _))
def Hz {ks:Ad}{a:PV}(h:cv ks a) {L:Ad}{s:aa}{d:Nat}(hd:nv L s d):kE [a,.ref d] s=.ok (.bl (aK L a)) s:=yg rfl (yn (Hy h hd rfl rfl))
theorem HA {ks:Ad}{as:An}(has:∀a∈as,cv ks a) (hl:as.length<=1000) {L:Ad}{s:aa}{d:Nat}(hd:nv L s d):qP [.tup as,.ref d] s=.ok (.int (aM (as.map (aK L)))) (s++[.lst ((as.map (aK L)).map PV.bl)]):=by
 have C:=lB (fe:=wY (ze ye (ze zv (zc 0) (Ar 0)) (As "of")) (ze (yH false) (ze zv (zc 0) (Ar 1)) (zc 2))) (env:=[some (.tup as),At d]) (f:=λa=>.bl (aK L a)) (st:=s) as (λx hx=>Hy (has x hx) hd rfl rfl) []
 have em:List.map (λa=>PV.bl (aK L a)) as=List.map PV.bl (List.map (aK L) as):=by simp
 rw [List.nil_append,em] at C
 have B:=Hl (as.map (aK L)) (by simpa using hl) s.length (s++[.lst ((as.map (aK L)).map PV.bl)]) (yj _ _)
 refine yg rfl (yn (zE (zL ?_) B))
 rw [iI,jz,zf rfl,zG]
 show (Res.ok (Sq.im as) s).bind _=_
 rw [zG,iJ,zF (by simp [lim];omega)]
 exact C
theorem TL (l:List Bool):decide (aM l≠0)=l.any id:=by
 induction l with
 | nil=>simp [aM]
 | cons b r ih =>
  have h:=uh r
  rw [List.any_cons,<-ih]
  cases b with
  | true=>simp only [aM,zF,id,Bool.true_or];rw [nS];simp;omega
  | false=>simp [aM]
noncomputable def kP:Key->PV
 | .inl i=>.int i
 | .inr z=>.str z
noncomputable abbrev aO (k:List Key):PV:=.tup (k.map kP)
theorem Br:∀k:List Key,dv (k.map kP)=some k
 | []=>rfl
 | x::r=>by
  have e:Fw (kP x)=some x:=by cases x<;>rfl
  rw [yu]
  unfold dv
  rw [e,Br r]
noncomputable abbrev cx {α:Type}(ks:List α):An:=ks.map λ_=>.bl true
def IsT (ks:Ag) (s:aa) (n:Nat):Prop:=dw s[n]?=some (ks,cx ks)
def Bs {old:Am}{neg:Bool}{k:List Key}{ks:Ag}{s:aa}{n:Nat}(h:IsT ks s n):cH old neg (aO k) (.ref n) s=.ok (.bl (neg.xor (a5 k ks))) (s.set n (.dit ks (cx ks))):=by
 unfold cH
 simp only [Br]
 rw [show dw s[n]?=some (ks,cx ks) from h]
def IsT.lt {ks:Ag}{s:aa}{n:Nat}(h:IsT ks s n):n<s.length:=by
 unfold IsT at h
 cases e:s[n]? with
 | none=>rw [e] at h;cases h
 | some so=>exact (yt.mp e).1
def oV {ks:Ag}{s:aa}{n:Nat}(h:n<s.length):IsT ks (s.set n (.dit ks (cx ks))) n:=by
 unfold IsT
 rw [je h]
 rfl
noncomputable def cA (ks:Ag) (k:List Key):Ag:=if a5 k ks=true then ks else ks++[k]
theorem HB {k:List Key}:∀ks:Ag,gY k (PV.bl true) ks (cx ks)=cx ks
 | []=>rfl
 | x::r=>by
  rw [show cx (x::r)=PV.bl true::cx r from rfl]
  unfold gY
  rw [HB r,ite_self]
def TM {k:List Key}{ks:Ag}:gZ k (.bl true) ks (cx ks)=(cA ks k,cx (cA ks k)):=by
 unfold gZ cA
 by_cases h:a5 k ks=true
 ·rw [zF h,zF h,HB]
 ·rw [zP h,zP h];simp [cx]
def Bt {fo fi fv:Ai}{e:zm}{s:aa}{n:Nat}{k:List Key}{ks:Ag}(hv:fv e s=.ok (.bl true) s) (ho:fo e s=.ok (.ref n) s) (hi:fi e s=.ok (aO k) s) (h:IsT ks s n) (hl:ks.length<1000000) :
  mV fo fi fv e s=.ok (.nx e) (s.set n (.dit (cA ks k) (cx (cA ks k)))):=by
 unfold mV
 rw [hv,zG,ho,zG,hi,zG]
 have P:mU (aO k) (.bl true) (.ref n) s=.ok () (s.set n (.dit (cA ks k) (cx (cA ks k)))):=by
  unfold mU
  simp only [Br]
  rw [show dw s[n]?=some (ks,cx ks) from h]
  simp only
  rw [zF (by simpa [lim] using hl),TM]
 rw [P,zG]
def TQ {ks:Ag}{k x:List Key}:x∈cA ks k↔x∈ks\/x=k:=by
 unfold cA
 by_cases h:a5 k ks=true
 ·rw [zF h]
  exact ⟨.inl,λq=>q.elim id λe=>e▸tF.mp h⟩
 ·rw [zP h];simp
def TU (ks:Ag) (k:List Key):(cA ks k).length<=ks.length+1:=by
 unfold cA
 split<;>simp
noncomputable abbrev bM:Aj:=(mV (zc 1) (zc 2) (mC (.bl true)))
def b0 (n:Nat) (s s':aa):Prop:=∀(m:Nat) so,m≠n->s[m]?=some so->s'[m]?=some so
def b0.refl (n:Nat) (s:aa):b0 n s s:=λ_ _ _ e=>e
def b0.trans {n:Nat}{a b c:aa}(h:b0 n a b) (h':b0 n b c):b0 n a c:=λm so q e=>h' m so q (h m so q e)
def kH {n:Nat}{s:aa}{o:SO}:b0 n s (s.set n o):=λm so q e=>by rw [yo (yT q)];exact e
def Old.bar {n:Nat}{s s':aa}(h:Old s s'):b0 n s s':=λm so _ e=>h m so e
def IsT.old {ks:Ag}{s s':aa}{n:Nat}(h:IsT ks s n) (o:Old s s'):IsT ks s' n:=by
 unfold IsT at h ⊢
 cases e:s[n]? with
 | none=>rw [e] at h;cases h
 | some so=>rw [o n so e];rw [e] at h;exact h
theorem TV (ws:Ag) (hl:ws.length<=1000) (st:aa):∃ks s1,lE [.tup (ws.map aO)] st=.ok (.ref st.length) s1/\IsT ks s1 st.length/\(∀k,k∈ks↔k∈ws)/\ks.length<=ws.length/\Old st s1:=by
 obtain ⟨e',s1,F,⟨z2,he⟩,ks,hT,hm,hk,ob⟩:=dg (g:=gN 2) (body:=bM) (ws.map aO) (λi e s=>(∃z2,e=[some (.tup (ws.map aO)),At st.length,z2])/\∃ks,IsT ks s st.length/\(∀k,k∈ks↔k∈ws.take i)/\ks.length<=i/\b0 st.length (st++[.dic [] []]) s) (λi x e s hx ⟨⟨z2,he⟩,ks,hT,hm,hk,ob⟩=>by
  subst he
  rw [yM] at hx
  obtain ⟨k,lA,rfl⟩:=Option.map_eq_some_iff.mp hx
  have hi:i<ws.length:=(yt.mp lA).1
  refine ⟨[some (.tup (ws.map aO)),At st.length,some (aO k)],_,_,rfl,Bt rfl (zf rfl) (zf rfl) hT (by omega),⟨_,rfl⟩,cA ks k,oV hT.lt,λx=>?_,by have:=TU ks k;omega,ob.trans kH⟩
  rw [TQ,hm,g9 lA,wu,jN]) ws.length 0 [some (.tup (ws.map aO)),At st.length,none] (st++[.dic [] []]) (by simp) ⟨⟨none,rfl⟩,[],by unfold IsT;rw [yj];rfl,by simp,ym _,b0.refl _ _⟩
 subst he
 rw [yI] at hm hk
 rw [List.take_length] at hm
 have FO:(yV (yG (zc 0)) (gN 2) bM) [some (.tup (ws.map aO)),At st.length,none] (st++[.dic [] []])=.ok (.nx [some (.tup (ws.map aO)),At st.length,z2]) s1:=by
  rw [wN,jz,zf rfl,zG]
  show (Res.ok (Sq.im (ws.map aO)) (st++[.dic [] []])).bind _=_
  rw [zG]
  exact F
 exact ⟨ks,s1,yg rfl (zB (zN rfl) (zB FO (yn (zf rfl)))),hT,hm,hk,λm so e=>ob m so (by have:=yk e;omega) (zU _ _ _ _ e)⟩
theorem TX {r:Nat}{k:List Key}{st:aa}(hr:st[r]?=some (.lst [aO k])):∃s1,lE [.ref r] st=.ok (.ref st.length) s1/\IsT [k] s1 st.length/\Old st s1:=by
 have Bu:(st++[SO.dic [] []])[r]?=some (.lst [aO k]):=zU _ _ _ _ hr
 have h0:IsT [] (st++[SO.dic [] []]) st.length:=by unfold IsT;rw [yj];rfl
 have P:=Bt (fo:=zc 1) (fi:=zc 2) (fv:=mC (.bl true)) (e:=[At r,At st.length,some (aO k)]) rfl (zf rfl) (zf rfl) h0 (by simp)
 have rl:r≠st.length:=by have:=yk hr;omega
 obtain ⟨e',s1,F,⟨z2,he⟩,hs⟩:=oO (g:=gN 2) (body:=bM) (n:=r) [aO k] (λi e s=>(∃z2,e=[At r,At st.length,z2])/\s=if i=0 then st++[SO.dic [] []] else (st++[SO.dic [] []]).set st.length (.dit (cA [] k) (cx (cA [] k)))) (λi e s ⟨_,h⟩=>by
   rw [h]
   split
   ·exact Bu
   ·rw [yo (yT rl)];exact Bu) (λi x e s hx ⟨⟨z2,he⟩,h⟩=>by
  have i0:i=0:=by have:=(yt.mp hx).1;simp at this;omega
  subst i0 he
  cases hx
  rw [zF rfl] at h
  subst h
  exact ⟨_,_,_,rfl,P,⟨_,rfl⟩,(zP (by omega)).symm⟩) 1 0 (lim+1) [At r,At st.length,none] (st++[SO.dic [] []]) rfl (by simp [lim]) ⟨⟨none,rfl⟩,(zF rfl).symm⟩
 subst he
 rw [zP (by simp)] at hs
 subst hs
 have FO:(yV (yG (zc 0)) (gN 2) bM) [At r,At st.length,none] (st++[SO.dic [] []])=.ok (.nx [At r,At st.length,z2]) ((st++[SO.dic [] []]).set st.length (.dit (cA [] k) (cx (cA [] k)))):=by
  rw [wN,jz,zf rfl,zG,oy,yr Bu,zG]
  exact F
 exact ⟨_,yg rfl (zB (zN rfl) (zB FO (yn (zf rfl)))),oV h0.lt,λm so e=>by rw [yo (by have:=yk e;omega)];exact zU _ _ _ _ e⟩
theorem TY (ps:Ad) (nd:ps.Nodup) (hl:ps.length<=1000) (st:aa):∃s1,lE [.tup (ps.map PV.str)] st=.ok (.ref st.length) s1/\s1[st.length]?=some (.dic ps (cx ps))/\Old st s1:=by
 obtain ⟨e',s1,F,⟨z2,he⟩,hd,ob⟩:=dg (g:=gN 2) (body:=bM) (ps.map PV.str) (λi e s=>(∃z2,e=[some (.tup (ps.map PV.str)),At st.length,z2])/\s[st.length]?=some (.dic (ps.take i) (cx (ps.take i)))/\b0 st.length (st++[.dic [] []]) s) (λi x e s hx ⟨⟨z2,he⟩,hd,ob⟩=>by
  subst he
  rw [yM] at hx
  obtain ⟨z,hz,rfl⟩:=Option.map_eq_some_iff.mp hx
  have hi:i<ps.length:=(yt.mp hz).1
  have zn:z∉ps.take i:=λhm=>by
   obtain ⟨j,hj⟩:=List.getElem?_of_mem hm
   have jl:j<i:=by have:=(yt.mp hj).1;simp at this;omega
   rw [List.getElem?_take_of_lt jl] at hj
   obtain ⟨h1,h2⟩:=yt.mp hj
   obtain ⟨h3,h4⟩:=yt.mp hz
   have:=AX nd h1 h3 (h2.trans h4.symm)
   omega
  have P:=tV (fo:=zc 1) (fi:=zc 2) (fv:=mC (.bl true)) (e:=[some (.tup (ps.map PV.str)),At st.length,some (.str z)]) (s:=s) rfl (zf rfl) (zf rfl) hd (by simp;omega)
  have dp:wE z (.bl true) (ps.take i) (cx (ps.take i))=(ps.take (i+1),cx (ps.take (i+1))):=by
   unfold wE
   rw [zP (by simpa using zn),g9 hz]
   simp [cx]
  rw [dp] at P
  have P':bM [some (.tup (ps.map PV.str)),At st.length,some (.str z)] s=_:=P
  exact ⟨_,_,_,rfl,P',⟨_,rfl⟩,je (yk hd),ob.trans kH⟩) ps.length 0 [some (.tup (ps.map PV.str)),At st.length,none] (st++[.dic [] []]) (by simp) ⟨⟨none,rfl⟩,yj _ _,b0.refl _ _⟩
 subst he
 rw [yI,List.take_length] at hd
 have FO:(yV (yG (zc 0)) (gN 2) bM) [some (.tup (ps.map PV.str)),At st.length,none] (st++[.dic [] []])=.ok (.nx [some (.tup (ps.map PV.str)),At st.length,z2]) s1:=by
  rw [wN,jz,zf rfl,zG]
  show (Res.ok (Sq.im (ps.map PV.str)) (st++[.dic [] []])).bind _=_
  rw [zG]
  exact F
 exact ⟨s1,yg rfl (zB (zN rfl) (zB FO (yn (zf rfl)))),hd,λm so e=>ob m so (by have:=yk e;omega) (zU _ _ _ _ e)⟩
noncomputable abbrev pk (f z:Str):List Key:=[.inr f,.inr z]
def oW {x:PV}{r:An}{st:aa}:a6 zv (.tup (x::r)) (.int 0) st=.ok x st:=yN
def Bv {x y:PV}{r:An}{st:aa}:a6 zv (.tup (x::y::r)) (.int 1) st=.ok y st:=js
def TZ {x y z w:PV}{r:An}{st:aa}:a6 zv (.tup (x::y::z::w::r)) (.int 3) st=.ok w st:=iN
theorem T4 {f:Str}{ps:Ad}{r:An}(hl:ps.length<=1000) {ks:Ag}{s:aa}{q:Nat}(hT:IsT ks s q):∃s1,qO [.tup (.str f :: .tup (ps.map PV.str)::r),.ref q] s=.ok (.int (aM (ps.map λp=>a5 (pk f p) ks))) s1/\IsT ks s1 q/\b0 q s s1/\s.length<=s1.length:=by
 obtain ⟨ys,s',C,hy,oX,ob,cI⟩:=tT (fe:=(ze (cH (yH false) false) (zC (zd (ze (a6 zv) (zc 1) (Ar 0)) (zd (zc 0) zo))) (zc 2))) (env:=[some (.tup (.str f :: .tup (ps.map PV.str)::r)),At q]) (ps.map PV.str) (λi ys s'=>ys=((ps.take i).map λp=>a5 (pk f p) ks).map PV.bl/\IsT ks s' q/\b0 q s s'/\s.length<=s'.length) (λi x ys s' hx ⟨hy,oX,ob,cI⟩=>by
  rw [yM] at hx
  obtain ⟨z,hz,rfl⟩:=Option.map_eq_some_iff.mp hx
  have R:=Bs (old:=yH false) (neg:=false) (k:=pk f z) oX
  rw [Bool.false_xor] at R
  refine ⟨_,_,zp (zX (zT (zp (zf rfl) rfl oW) (zf rfl)) (by simp)) (zf rfl) R,?_,oV oX.lt,ob.trans kH,by simpa using cI⟩
  rw [hy,g9 hz]
  simp) ps.length 0 [] s (by simp) ⟨rfl,hT,b0.refl _ _,ym _⟩
 rw [yI,List.take_length] at hy
 have B:=Hl (ps.map λp=>a5 (pk f p) ks) (by simpa using hl) s'.length (s'++[.lst ys]) (by rw [hy];exact yj _ _)
 refine ⟨s'++[.lst ys],yg rfl (yn (zE (zL ?_) B)),oX.old (zU _ _),ob.trans (zU _ _).bar,by simp;omega⟩
 rw [iI,jz,zp (zf rfl) rfl Bv,zG]
 show (Res.ok (Sq.im (ps.map PV.str)) s).bind _=_
 rw [zG,iJ,zF (by simp [lim];omega)]
 exact C
noncomputable def bitAt (b:Int) (i:Nat):Bool:=decide (b/2 ^ i%2=1)
noncomputable def picks (p:Nat->Bool):Nat->List Str->Ad
 | _,[]=>[]
 | i,z::r=>if p i then z::picks p (i+1) r else picks p (i+1) r
theorem uk {ft:Ak}{fe:Ai}{env:zm}{st:aa}{p:Nat->Bool}:∀(zs:Ad) (i:Nat) (ys:An),(∀(j:Nat) z,i<=j->j<i+zs.length->ft (some (.int j)::some (.str z)::env) st=.ok (p j) st)->(∀(j:Nat) z,fe (some (.int j)::some (.str z)::env) st=.ok (.str z) st)->dQ ft fe env i (zs.map PV.str) ys st=.ok (.ref st.length) (st++[.lst (ys++(picks p i zs).map PV.str)])
 | [],i,ys,_,_=>by simp [dQ,picks]
 | z::r,i,ys,h,h'=>by
  rw [yu]
  unfold dQ
  rw [h i z (ym _) (by simp),mI,zG]
  unfold picks
  cases hp:p i with
  | true =>
   rw [zF rfl,zF rfl,h' i z,mI,zG,uk r (i+1) _ (λj z a b=>h j z (by omega) (by simp;omega)) h']
   simp
  | false =>
   rw [zP (by simp),zP (by simp),uk r (i+1) _ (λj z a b=>h j z (by omega) (by simp;omega)) h']
theorem rg {p:Nat->Bool}:∀{zs:Ad}{i:Nat},(picks p i zs).Sublist zs
 | [],_=>.slnil
 | z::r,i=>by
  unfold picks
  split
  ·exact (rg).cons₂ z
  ·exact (rg).cons z
theorem T5 (x:Int) (h:0<=x):Builtin.bitAnd x 1=x%2:=by
 unfold Builtin.bitAnd
 rw [wc h]
 show ((x.toNat &&& 1:Nat):Int)=_
 rw [Nat.and_one_is_mod]
 omega
theorem Bw (j:Nat) (hj:j<=1000) (st:aa):kn (.int 1) (.int (j:Int)) st=.ok (.int (2 ^ j)) st:=by
 have hc:dC 1 (j:Int)=true:=by simp [dC];omega
 show (if dC 1 (j:Int)=true then Res.ok (PV.int (1*2 ^ (j:Int).toNat)) st else .stuck)=_
 rw [zF hc,Int.one_mul,Int.toNat_natCast]
def T6 (b:Int) (hb:0<=b) (j:Nat) (st:aa):tN [.int b,.int (j:Int)] st=.ok (.bl (bitAt b j)) st:=by
 have S:xx (.int b) (.int (j:Int)) st=.ok (.int (b/2 ^ j)) st:=by
  have hc:qq b (j:Int)=true:=by simp [qq]
  show (if qq b (j:Int)=true then Res.ok (PV.int (b/2 ^ (j:Int).toNat)) st else .stuck)=_
  rw [zF hc,Int.toNat_natCast]
 have nn:0<=b/2 ^ j:=Int.ediv_nonneg hb (Int.pow_nonneg (by decide))
 have A:xw (.int (b/2 ^ j)) (.int 1) st=.ok (.int (b/2 ^ j%2)) st:=by
  show (if c0 (b/2 ^ j) 1=true then Res.ok (PV.int (Builtin.bitAnd (b/2 ^ j) 1)) st else .stuck)=_
  rw [zF rfl,T5 _ nn]
 exact yg rfl (yn (zp (zp (zp (zf rfl) (zf rfl) S) rfl A) rfl (xW _ _)))
theorem T7 {f:PV}{ps:Ad}{r:An}(b:Int) (hb:0<=b) (hl:ps.length<=1000) (st:aa):tO [.tup (f :: .tup (ps.map PV.str)::r),.int b] st=.ok (.tup ((picks (bitAt b) 0 ps).map PV.str)) (st++[.lst ((picks (bitAt b) 0 ps).map PV.str)]):=by
 have C:=uk (ft:=(mB (zu tN (zd (zc 3) (zd (zc 0) zo))))) (fe:=zc 1) (env:=[some (.tup (f :: .tup (ps.map PV.str)::r)),some (.int b)]) (st:=st) (p:=bitAt b) ps 0 [] (λj z _ _=>yc (zE (zT (zf rfl) (zf rfl)) (T6 b hb j st))) (λj z=>zf rfl)
 rw [List.nil_append] at C
 refine yg rfl (yn (zE (zL ?_) (by rw [wm,yr (yj _ _)])))
 unfold qL
 rw [zL (zp (zf rfl) rfl js),zG]
 show (Res.bind (if _ then _ else _) _)=_
 rw [zF (by simp [lim];omega),zG]
 exact C
theorem T8 {f:PV}{ps:Ad}{r:An}(b:Int) (hb:0<=b) (hl:ps.length<=100) (st:aa):tR [.tup (f :: .tup (ps.map PV.str)::r),.int b] st=.ok (.ref st.length) (st++[.lst ((picks (bitAt b) 0 ps).map PV.str)]):=by
 have C:=uk (ft:=(mB (ze ye (ze zV (ze yO (zc 3) (ze kn (Ar 1) (zc 0))) (Ar 2)) (Ar 1)))) (fe:=zc 1) (env:=[some (.tup (f :: .tup (ps.map PV.str)::r)),some (.int b)]) (st:=st) (p:=bitAt b) ps 0 [] (λj z _ hj=>by
  have p0:(0:Int)<2 ^ j:=Int.pow_pos (by decide)
  have p1:((2:Int) ^ j).natAbs<2 ^ 200:=by
   rw [Int.natAbs_pow]
   exact Nat.pow_lt_pow_right (by decide) (by omega)
  refine yc (zp (zp (zp (zf rfl) (zp rfl (zf rfl) (Bw j (by omega) _)) ((wH _ _ (by omega) p1).trans (by rw [GL _ _ p0]))) rfl ((jj _ _ (by decide)).trans (by rw [tS _ _ (by decide)]))) rfl (xW _ _))) (λj z=>zf rfl)
 rw [List.nil_append] at C
 refine yg rfl (yn ?_)
 unfold qL
 rw [zL (zp (zf rfl) rfl js),zG]
 show (Res.bind (if _ then _ else _) _)=_
 rw [zF (by simp [lim];omega),zG]
 exact C
noncomputable def f7:List Bool->List Bool->List Bool
 | a::r,b::s=>(a||b)::f7 r s
 | _,_=>[]
noncomputable def bN:List Bool->Nat
 | []=>0
 | b::r=>b.toNat+2*bN r
theorem uo:∀l,aM l=(bN l:Int)
 | []=>rfl
 | b::r=>by
  rw [aM,bN,uo r]
  cases b<;>simp
theorem HC:∀(a b:List Bool),a.length=b.length->(bN a:Int)+bN b-((bN a &&& bN b:Nat):Int)=bN (f7 a b)
 | [],[],_=>by simp [bN,f7]
 | [],_::_,h=>by simp at h
 | _::_,[],h=>by simp at h
 | x::a,y::b,h=>by
  have ih:=HC a b (by simpa using h)
  have e:bN (x::a) &&& bN (y::b)=(x&&y).toNat+2*(bN a &&& bN b):=by
   apply Nat.eq_of_testBit_eq
   intro j
   rw [Nat.testBit_and]
   cases j with
   | zero=>simp only [Nat.testBit_zero,bN];cases x<;>cases y<;>simp<;>omega
   | succ j =>
    have h1:∀(z:Bool) (n:Nat),(z.toNat+2*n)/2=n:=λz n=>by cases z<;>simp<;>omega
    simp only [Nat.testBit_succ,bN,h1,Nat.testBit_and]
  rw [e,show f7 (x::a) (y::b)=(x||y)::f7 a b from rfl]
  simp only [bN]
  cases x<;>cases y<;>simp<;>omega
def T9 {a b:List Bool}(h:a.length=b.length):Builtin.bitOr (aM a) (aM b)=aM (f7 a b):=by
 rw [PyProof.Rows.bitOr_and,uo,uo,uo,<-HC a b h]
 unfold Builtin.bitAnd
 rw [wc (Int.natCast_nonneg _),wc (Int.natCast_nonneg _)]
 simp
structure FD where
 nz:Str
 ps:Ad
 zs:Ad
 ls:An
 bv:PV
noncomputable def FD.v (F:FD):PV:=.tup [.str F.nz,.tup (F.ps.map PV.str),F.bv]
noncomputable abbrev FD.h (F:FD):Str×Nat:=(F.nz,F.ps.length)
structure bf (hs:List (Str×Nat)) (F:FD):Prop where
 bk:∃dd,dd<=8/\Bk F.bv F.ls dd
 ln:cb hs F.ps F.ls F.zs
 nd:(F.ps++F.zs).Nodup
 nl:F.ls.length<=100
 np:F.ps.length<=6
structure bC (Fs:List FD):Prop where
 ok:Hs (Fs.map FD.h)
 few:Fs.length<=200
 nd:(Fs.map (·.nz)).Nodup
 fn:∀F∈Fs,bf (Fs.map FD.h) F
theorem HD {hs:List (Str×Nat)}:∀(rj:List (Str×Nat)) (rm:An),rm.length=rj.length->(∀(i:Nat) h f,rj[i]?=some h->rm[i]?=some f->fV hs h f)->∃Fs:List FD,rm=Fs.map FD.v/\rj=Fs.map FD.h/\∀F∈Fs,bf hs F
 | [],[],_,_=>⟨[],rfl,rfl,λ_ h=>nomatch h⟩
 | [],_::_,h,_=>by simp at h
 | _::_,[],h,_=>by simp at h
 | h::rj,f::rm,hl,hf=>by
  obtain ⟨Fs,e1,e2,e3⟩:=HD rj rm (by simpa using hl) (λi h f a b=>hf (i+1) h f (by simpa using a) (by simpa using b))
  obtain ⟨ps,zs,ls,dd,⟨⟨bv,rfl,B⟩,ln,nd,dp,nl,np⟩,hp⟩:=hf 0 h f rfl rfl
  refine ⟨⟨h.1,ps,zs,ls,bv⟩::Fs,by rw [e1];rfl,by rw [e2,yu,show FD.h ⟨h.1,ps,zs,ls,bv⟩=h from by show (h.1,ps.length)=h;rw [hp]],λF hF=>?_⟩
  rcases yC.mp hF with q|q
  ·rw [q];exact ⟨⟨dd,dp,B⟩,ln,nd,nl,np⟩
  ·exact e3 F q
def T_ {hs:List (Str×Nat)}{fs:An}(h:m9 hs fs):∃Fs,fs=Fs.map FD.v/\bC Fs:=by
 obtain ⟨Fs,e1,e2,e3⟩:=HD hs fs h.len h.fn
 refine ⟨Fs,e1,⟨e2▸h.ok,?_,?_,λF hF=>e2▸e3 F hF⟩⟩
 ·have:=h.few;rw [e2] at this;simpa using this
 ·have:=h.nd;rw [e2,List.map_map] at this;exact this
theorem HE {l:Ad}(nd:l.Nodup) {i:Nat}{z:Str}(hz:l[i]?=some z):z∉l.take i:=λhm=>by
 obtain ⟨j,hj⟩:=List.getElem?_of_mem hm
 have jl:j<i:=by have:=(yt.mp hj).1;simp at this;omega
 rw [List.getElem?_take_of_lt jl] at hj
 obtain ⟨h1,h2⟩:=yt.mp hj
 obtain ⟨h3,h4⟩:=yt.mp hz
 have:=AX nd h1 h3 (h2.trans h4.symm)
 omega
def Bx {z:Str}{x:PV}{ks:Ad}{xs:An}(h:z∉ks):wE z x ks xs=(ks++[z],xs++[x]):=by
 unfold wE
 rw [zP (by simpa using h)]
theorem Ua {Fs:List FD}(P:bC Fs) (st:aa):∃s1,AQ [.tup (Fs.map FD.v)] st=.ok (.ref st.length) s1/\s1[st.length]?=some (.dic (Fs.map (·.nz)) (Fs.map FD.v))/\Old st s1:=by
 have few:=P.few
 obtain ⟨e',s1,F,⟨z2,he⟩,hd,ob⟩:=dg (g:=gN 2) (body:=(iH (zc 1) (ze zv (zc 2) (Ar 0)) (zc 2))) (Fs.map FD.v) (λi e s=>(∃z2,e=[some (.tup (Fs.map FD.v)),At st.length,z2])/\s[st.length]?=some (.dic ((Fs.take i).map (·.nz)) ((Fs.take i).map FD.v))/\b0 st.length (st++[.dic [] []]) s) (λi x e s hx ⟨⟨z2,he⟩,hd,ob⟩=>by
  subst he
  rw [yM] at hx
  obtain ⟨F,hF,rfl⟩:=Option.map_eq_some_iff.mp hx
  have hi:i<Fs.length:=(yt.mp hF).1
  have zn:F.nz∉(Fs.take i).map (·.nz):=by
   rw [List.map_take]
   exact HE P.nd (by rw [yM,hF];rfl)
  have Pt:=tV (fo:=zc 1) (fi:=(ze zv (zc 2) (Ar 0))) (fv:=zc 2) (e:=[some (.tup (Fs.map FD.v)),At st.length,some F.v]) (s:=s) (zf rfl) (zf rfl) (zp (zf rfl) rfl yN) hd (by simp;omega)
  rw [Bx zn] at Pt
  refine ⟨_,_,_,rfl,Pt,⟨_,rfl⟩,?_,ob.trans kH⟩
  rw [je (yk hd),g9 hF]
  simp) Fs.length 0 [some (.tup (Fs.map FD.v)),At st.length,none] (st++[.dic [] []]) (by simp) ⟨⟨none,rfl⟩,yj _ _,b0.refl _ _⟩
 subst he
 rw [yI,List.take_length] at hd
 have FO:(yV (yG (zc 0)) (gN 2) (iH (zc 1) (ze zv (zc 2) (Ar 0)) (zc 2))) [some (.tup (Fs.map FD.v)),At st.length,none] (st++[.dic [] []])=.ok (.nx [some (.tup (Fs.map FD.v)),At st.length,z2]) s1:=by
  rw [wN,jz,zf rfl,zG]
  show (Res.ok (Sq.im (Fs.map FD.v)) (st++[.dic [] []])).bind _=_
  rw [zG]
  exact F
 exact ⟨s1,yg rfl (zB (zN rfl) (zB FO (yn (zf rfl)))),hd,λm so e=>ob m so (by have:=yk e;omega) (zU _ _ _ _ e)⟩
noncomputable abbrev nA (q b:Nat):SO:=.ins "Holding" ["pairs", "bits_by_name"] [.ref q,.ref b]
noncomputable def hb (ks:Ag) (F:FD):Int:=aM (F.ps.map λp=>a5 (pk F.nz p) ks)
structure dA (Fs:List FD) (ks:Ag) (o q b:Nat) (s:aa):Prop where
 at_:s[o]?=some (nA q b)
 ps:IsT ks s q
 bs:s[b]?=some (.dic (Fs.map (·.nz)) (Fs.map λF=>.int (hb ks F)))
 n1:o≠q
 n2:b≠q
def dA.bar {Fs:List FD}{ks:Ag}{o q b:Nat}{s s':aa}(h:dA Fs ks o q b s) (hb:b0 q s s') (hT:IsT ks s' q):dA Fs ks o q b s':=⟨hb _ _ h.n1 h.at_,hT,hb _ _ h.n2 h.bs,h.n1,h.n2⟩
def dA.old {Fs:List FD}{ks:Ag}{o q b:Nat}{s s':aa}(h:dA Fs ks o q b s) (hb:Old s s'):dA Fs ks o q b s':=h.bar hb.bar (h.ps.old hb)
def HF {s:aa} {o q b:Nat} (h:s[o]?=some (nA q b)):cQ "pairs" insOf excOf (.ref o) s=.ok (.ref q) s:=by
 rw [Ed,xq h,zF (by simp [insOf])]
 rfl
def HG {s:aa} {o q b:Nat} (h:s[o]?=some (nA q b)):cQ "bits_by_name" insOf excOf (.ref o) s=.ok (.ref b) s:=by
 rw [Ed,xq h,zF (by simp [insOf])]
 rfl
def oY {ks:Ag}{s:aa}{n q:Nat}{x:SO}(h:IsT ks s q) (ne:n≠q):IsT ks (s.set n x) q:=by
 unfold IsT at h ⊢
 rw [yo ne]
 exact h
def HH {m n:Nat}{g:Aj}{xs:An}{st r:aa}{e:zm}(hl:xs.length=m) (h:g (xs.map some++List.replicate (n-m) none) st=.ok (.nx e) r):yq m n g xs st=.ok .non r:=by
 unfold yq
 rw [zF hl,h]
 rfl
def HI {f:Str} {fo fv:Ai} {e:zm} {s s1:aa} {o:Nat} {x:PV} {ks:Ad} {xs:An} (hv:fv e s=.ok x s1) (ho:fo e s1=.ok (.ref o) s1) (h:s1[o]?=some (.ins "Holding" ks xs)) (hl:ks.length<1000):sFld f insOf fo fv e s=.ok (.nx e) (s1.set o (.ins "Holding" (Mi.putK f x ks xs).1 (Mi.putK f x ks xs).2)):=by
 rw [OT,hv,zG,ho,zG]
 show (j7 s1 o _).bind _=_
 rw [xq h,zF ⟨by simp [insOf],hl⟩,zG]
noncomputable abbrev bH:Aj:=(iH (jZ (cQ "bits_by_name" insOf excOf) (zc 0)) (ze zv (zc 3) (Ar 0)) (zu qO (zd (zc 3) (zd (jZ (cQ "pairs" insOf excOf) (zc 0)) zo))))
theorem Ub {Fs:List FD} (P:bC Fs) (ws:Ag) (hw:ws.length<=1000) (st:aa):∃ks q b s1,lh "Holding" tK [.tup (Fs.map FD.v),.tup (ws.map aO)] st=.ok (.ref st.length) s1/\dA Fs ks st.length q b s1/\(∀k,k∈ks↔k∈ws)/\st.length<q/\q<b/\Old st s1:=by
 have few:=P.few
 let o:=st.length
 let t0:=st++[SO.ins "Holding" [] []]
 have h0:t0[o]?=some (.ins "Holding" [] []):=yj _ _
 obtain ⟨ks,t1,E1,Uc,hm,hk,o1⟩:=TV ws hw t0
 have lo:o<t0.length:=yk h0
 have h1:=o1 _ _ h0
 let t2:=t1.set o (.ins "Holding" ["pairs"] [.ref t0.length])
 have HJ:IsT ks t2 t0.length:=oY Uc (by omega)
 have h2:t2[o]?=some (.ins "Holding" ["pairs"] [.ref t0.length]):=je (yk h1)
 let t3:=t2++[SO.dic [] []]
 have h3:t3[o]?=some (.ins "Holding" ["pairs"] [.ref t0.length]):=zU _ _ _ _ h2
 let t4:=t3.set o (nA t0.length t2.length)
 have qb:t0.length<t2.length:=by have:=HJ.lt;exact this
 have l2:o<t2.length:=yk h2
 have h4:t4[o]?=some (nA t0.length t2.length):=je (yk h3)
 have Ud:IsT ks t4 t0.length:=oY (HJ.old (zU _ _)) (by omega)
 have b4:t4[t2.length]?=some (.dic [] []):=by rw [yo (by omega)];exact yj _ _
 have o4:∀(m:Nat) so,st[m]?=some so->t4[m]?=some so:=λm so e=>by
  have ml:=yk e
  rw [yo (by omega)]
  refine zU _ _ _ _ ?_
  rw [yo (by omega)]
  exact o1 _ _ (zU _ _ _ _ e)
 obtain ⟨e',s1,F,⟨z3,he⟩,g1,g2,g3,g4⟩:=dg (g:=gN 3) (body:=bH) (Fs.map FD.v) (λi e s=>(∃z3,e=[At o,some (.tup (Fs.map FD.v)),some (.tup (ws.map aO)),z3])/\s[o]?=some (nA t0.length t2.length)/\IsT ks s t0.length/\s[t2.length]?=some (.dic ((Fs.take i).map (·.nz)) ((Fs.take i).map λF=>.int (hb ks F)))/\∀(m:Nat) so,st[m]?=some so->s[m]?=some so) (λi x e s hx ⟨⟨z3,he⟩,g1,g2,g3,g4⟩=>by
  subst he
  rw [yM] at hx
  obtain ⟨F,hF,rfl⟩:=Option.map_eq_some_iff.mp hx
  have hi:i<Fs.length:=(yt.mp hF).1
  have np:=(P.fn F (wb hF)).np
  have zn:F.nz∉(Fs.take i).map (·.nz):=by
   rw [List.map_take]
   exact HE P.nd (by rw [yM,hF];rfl)
  obtain ⟨s',EB,oX,ob,cI⟩:=T4 (f:=F.nz) (ps:=F.ps) (r:=[F.bv]) (by omega) g2
  have HK:=ob _ _ (show o≠t0.length by omega) g1
  have Pt:=tV (fo:=(jZ (cQ "bits_by_name" insOf excOf) (zc 0))) (fi:=(ze zv (zc 3) (Ar 0))) (fv:=(zu qO (zd (zc 3) (zd (jZ (cQ "pairs" insOf excOf) (zc 0)) zo)))) (e:=[At o,some (.tup (Fs.map FD.v)),some (.tup (ws.map aO)),some F.v]) (s:=s) (zE (zT (zf rfl) (qG (zf rfl) (HF g1))) EB) (qG (zf rfl) (HG HK)) (zp (zf rfl) rfl yN) (ob _ _ (by omega) g3) (by simp;omega)
  rw [Bx zn] at Pt
  refine ⟨_,_,_,rfl,Pt,⟨_,rfl⟩,?_,oY oX (by omega),?_,λm so e=>?_⟩
  ·rw [yo (by omega)];exact HK
  ·rw [je (yk (ob _ _ (by omega) g3)),g9 hF]
   simp [hb]
  ·have ml:=yk e
   rw [yo (by omega)]
   exact ob _ _ (by omega) (g4 m so e)) Fs.length 0 [At o,some (.tup (Fs.map FD.v)),some (.tup (ws.map aO)),none] t4 (by simp) ⟨⟨none,rfl⟩,h4,Ud,b4,o4⟩
 subst he
 rw [yI,List.take_length] at g3
 have FO:(yV (yG (zc 1)) (gN 3) bH) [At o,some (.tup (Fs.map FD.v)),some (.tup (ws.map aO)),none] t4=.ok (.nx [At o,some (.tup (Fs.map FD.v)),some (.tup (ws.map aO)),z3]) s1:=by
  rw [wN,jz,zf rfl,zG]
  show (Res.ok (Sq.im (Fs.map FD.v)) t4).bind _=_
  rw [zG]
  exact F
 have D1:=HI (f := "pairs") (fo:=zc 0) (fv:=(zu lE (zd (zc 2) zo))) (e:=[At o,some (.tup (Fs.map FD.v)),some (.tup (ws.map aO)),none]) (s:=t0) (zE (zL (zf rfl)) E1) (zf rfl) h1 (by simp)
 have D2:=HI (f := "bits_by_name") (fo:=zc 0) (fv:=qm) (e:=[At o,some (.tup (Fs.map FD.v)),some (.tup (ws.map aO)),none]) (s:=t2) (s1:=t3) (x:=.ref t2.length) rfl (zf rfl) h3 (by simp)
 have I:tK [.ref o,.tup (Fs.map FD.v),.tup (ws.map aO)] t0=.ok .non s1:=HH rfl (zB D1 (zB D2 FO))
 refine ⟨ks,t0.length,t2.length,s1,?_,⟨g1,g2,g3,by omega,by omega⟩,hm,lo,qb,g4⟩
 unfold lh
 rw [I,zG]
 rfl
def By {name:Str} {tab:Str->Option (Al)} {fo:Ai} {fs:Ah} {m:Al} {ys:An} {X:Res PV} {e:zm} {s s1:aa} {o q b:Nat} (ho:fo e s=.ok (.ref o) s) (h:s[o]?=some (nA q b)) (hn:name∉(["pairs", "bits_by_name"]:Ad)) (ht:tab "Holding" = some m) (hf:fs e s=.ok ys s1) (hm:m (.ref o::ys) s1=X):iG name tab fo fs e s=X:=by
 unfold iG
 rw [ho,zG]
 show j7 s o _=_
 unfold j7
 rw [h]
 simp only
 rw [zP hn,ht]
 simp only
 rw [hf,zG,hm]
def HL {s:aa}{n:Nat}{ks:Ad}{xs:An}{z:Str}{x:PV}(h:s[n]?=some (.dic ks xs)) (hl:(ks.zip xs).lookup z=some x):zv (.ref n) (.str z) s=.ok x s:=by
 show jS s n _=_
 unfold jS
 rw [h]
 simp only
 rw [hl]
 rfl
noncomputable def bI (ks:Ag) (L:Ad) (F:FD) (as:An):List Bool:=f7 (as.map (aK L)) (F.ps.map λp=>a5 (pk F.nz p) ks)
theorem Ue {Fs:List FD}(P:bC Fs) {ks:Ag}{o q b:Nat}{s:aa}(H:dA Fs ks o q b s) {F:FD}(hF:F∈Fs) {as:An}{nk:Ad}(ha:∀a∈as,cv nk a) (hl:F.ps.length=as.length) {L:Ad}{d:Nat}(hd:nv L s d):m_Holding_goal_of [.ref o,.tup [.str F.nz,.tup as],.ref d] s=.ok (.int (aM (bI ks L F as))) (s++[.lst ((as.map (aK L)).map PV.bl)]):=by
 have np:=(P.fn F hF).np
 have N:=HA ha (by omega) hd
 let s1:=s++[SO.lst ((as.map (aK L)).map PV.bl)]
 have H1:dA Fs ks o q b s1:=H.old (zU _ _)
 obtain ⟨i,hi⟩:=List.getElem?_of_mem hF
 have lk:((Fs.map (·.nz)).zip (Fs.map λF=>PV.int (hb ks F))).lookup F.nz=some (.int (hb ks F)):=Bo (j:=i) P.nd (by rw [yM,hi];rfl) (by rw [yM,hi];rfl)
 have O:qp (.int (aM (as.map (aK L)))) (.int (hb ks F)) s1=.ok (.int (aM (bI ks L F as))) s1:=by
  have e:Builtin.bitOr (aM (as.map (aK L))) (hb ks F)=aM (bI ks L F as):=by
   unfold hb
   rw [T9 (by simp;omega)]
   rfl
  show (if c0 (aM (as.map (aK L))) (hb ks F)=true then Res.ok (PV.int (Builtin.bitOr (aM (as.map (aK L))) (hb ks F))) s1 else .stuck)=_
  rw [zF rfl,e]
 exact yg rfl (yn (zp (zE (zT (zp (zf rfl) rfl js) (zf rfl)) N) (zp (qG (zf rfl) (HG H1.at_)) (zp (zf rfl) rfl yN) (HL H1.bs lk)) O))
def Ug {z o:Str} {as:An} {hs:List (Str×Nat)} {ks:Ad} (h:cL hs ks z (.tup [.str "let", .str z,.str o,.tup as])) (s:aa):tP [.tup [.str "let", .str z,.str o,.tup as]] s=.ok (.tup as) s:=yg rfl (jV (yR (yc (zE (zL (zf rfl)) (Ht h s))) (yn (zp (zf rfl) rfl iN))))
def Uh {nz z f:Str} {as:An} {o q b d:Nat} {s:aa}:m_Holding_makes_later [.ref o,.str nz,.tup [.str "call", .str z,.str f,.tup as],.ref d] s=.ok (.bl true) s:=yg rfl (jV (yR (xU (yc (zp (zp (zf rfl) rfl oW) rfl (fY _)))) (yn rfl)))
def Ui (i:Int) (st:aa):wM (.int i) (.int 0) st=.ok (.bl (decide (i≠0))) st:=by
 simp [wM,Mi.plain,dep,a_]
 rfl
def Uj {Fs:List FD} {ks:Ag} {o q b:Nat} {s:aa} (H:dA Fs ks o q b s) {nz z op:Str} {as:An} {hs:List (Str×Nat)} {nk:Ad} (h:cL hs nk z (.tup [.str "let", .str z,.str op,.tup as])) (ha:∀a∈as,cv nk a) (hl:as.length<=1000) {L:Ad} {d:Nat} (hd:nv L s d) :
  ∃s1,m_Holding_makes_later [.ref o,.str nz,.tup [.str "let", .str z,.str op,.tup as],.ref d] s=.ok (.bl (as.any (aK L)||a5 (pk nz z) ks)) s1/\dA Fs ks o q b s1/\b0 q s s1:=by
 have N:=HA ha hl hd
 let s1:=s++[SO.lst ((as.map (aK L)).map PV.bl)]
 have H1:dA Fs ks o q b s1:=H.old (zU _ _)
 have B:decide (aM (as.map (aK L))≠0)=as.any (aK L):=by rw [TL,List.any_map];rfl
 have T:(jI (mB (ze ye (ze (a6 zv) (zc 2) (Ar 0)) (As "call"))) (mB (ze wM (zu qP (zd (zu tP (zd (zc 2) zo)) (zd (zc 3) zo))) (Ar 0)))) [At o,some (.str nz),some (.tup [.str "let", .str z,.str op,.tup as]),At d] s=.ok (as.any (aK L)) s1:=by
  refine mR (yc (zp (zp (zf rfl) rfl oW) rfl (dG n1 _))) (yc (zp (zE (zT (zE (zL (zf rfl)) (Ug h s)) (zf rfl)) N) rfl ?_))
  rw [Ui,B]
 cases hany:as.any (aK L) with
 | true =>
  rw [hany] at T
  exact ⟨s1,yg rfl (jV (yR T (yn rfl))),H1,(zU _ _).bar⟩
 | false =>
  rw [hany] at T
  have R:=Bs (old:=yH false) (neg:=false) (k:=pk nz z) H1.ps
  rw [Bool.false_xor] at R
  rw [Bool.false_or]
  exact ⟨_,yg rfl (zB (yD T) (yn (zp (zX (zT (zf rfl) (zp (zf rfl) rfl Bv)) (by simp)) (qG (zf rfl) (HF H1.at_)) R))),H1.bar kH (oV H1.ps.lt),(zU _ _).bar.trans kH⟩
inductive Li where
 | let_ (z:Str) (as:An)|call (z f:Str) (as:An)|go (f:Str) (as:An)|oth
noncomputable def li:PV->Li
 | .tup [.str w,.str z,.str o,.tup as]=>if w = "let" then .let_ z as else if w = "call" then .call z o as else .oth
 | .tup [.str w,.str f,.tup as]=>if w = "go" then .go f as else .oth
 | _=>.oth
def lL {z o:Str} {as:An}:li (.tup [.str "let", .str z,.str o,.tup as])=.let_ z as:=by simp [li]
def lM {z o:Str} {as:An}:li (.tup [.str "call", .str z,.str o,.tup as])=.call z o as:=by simp [li,yT n1]
def lN {f:Str} {as:An}:li (.tup [.str "go", .str f,.tup as])=.go f as:=by simp [li]
noncomputable def gl (Fs:List FD) (ks:Ag) (L:Ad) (f:Str) (as:An):Int:=match Fs.find? λF=>decide (F.nz=f) with
 | some F=>aM (bI ks L F as)
 | none=>0
theorem oZ:∀{Fs:List FD}{F:FD},(Fs.map (·.nz)).Nodup->F∈Fs->Fs.find? (λG=>decide (G.nz=F.nz))=some F
 | [],_,_,h=>nomatch h
 | G::Fs,F,nd,h=>by
  rw [yu,jH] at nd
  rw [List.find?_cons]
  rcases yC.mp h with q|q
  ·rw [<-q,wc rfl]
  ·have ne:¬G.nz=F.nz:=λe=>nd.1 (jv.mpr ⟨F,q,e.symm⟩)
   rw [jU ne]
   exact oZ nd.2 q
def Bz {Fs:List FD}(P:bC Fs) {F:FD}(h:F∈Fs) (ks:Ag) (L:Ad) (as:An):gl Fs ks L F.nz as=aM (bI ks L F as):=by
 unfold gl
 rw [oZ P.nd h]
def uq {Fs:List FD}{f:Str}{n:Nat}(h:(f,n)∈Fs.map FD.h):∃F∈Fs,F.nz=f/\F.ps.length=n:=by
 obtain ⟨F,hF,e⟩:=jv.mp h
 cases e
 exact ⟨F,hF,rfl,rfl⟩
noncomputable def wk (Fs:List FD) (ks:Ag) (nz:Str):List Str->List Li->List Str×List Int
 | _,[]=>([],[])
 | L,.let_ z as::r=>if (as.any (aK L)||a5 (pk nz z) ks)=true then (z::(wk Fs ks nz (L++[z]) r).1,(wk Fs ks nz (L++[z]) r).2) else wk Fs ks nz L r
 | L,.call z f as::r=>(z::(wk Fs ks nz (L++[z]) r).1,gl Fs ks L f as::(wk Fs ks nz (L++[z]) r).2)
 | L,.go f as::r=>((wk Fs ks nz L r).1,gl Fs ks L f as::(wk Fs ks nz L r).2)
 | L,.oth::r=>wk Fs ks nz L r
structure BF (Fs:List FD) (ks:Ag) (o q b d a g:Nat) (s0 s:aa) (L stp:Ad) (cy:List Int):Prop where
 H:dA Fs ks o q b s
 D:s[d]?=some (.dic L (cx L))
 A:s[a]?=some (.lst (stp.map PV.str))
 G:s[g]?=some (.lst (cy.map PV.int))
 F:∀(m:Nat) so,m≠q->m<d->s0[m]?=some so->s[m]?=some so
 i1:o<d
 i2:q<d
 i3:b<d
 i4:d<a
 i5:a<g
section
variable {Fs:List FD}{ks:Ag}{o q b d a g:Nat}{s0 s s':aa}{L stp:Ad}{cy:List Int}
theorem BF.bar (h:BF Fs ks o q b d a g s0 s L stp cy) (k:b0 q s s') (hT:dA Fs ks o q b s'):BF Fs ks o q b d a g s0 s' L stp cy :=
 have j1:=h.i2;have j2:=h.i4;have j3:=h.i5
 ⟨hT,k _ _ (by omega) h.D,k _ _ (by omega) h.A,k _ _ (by omega) h.G,λm so x y z=>k m so x (h.F m so x y z),h.i1,h.i2,h.i3,h.i4,h.i5⟩
def BF.old (h:BF Fs ks o q b d a g s0 s L stp cy) (k:Old s s'):BF Fs ks o q b d a g s0 s' L stp cy:=h.bar k.bar (h.H.old k)
def nB {n:Nat}{x:SO}(h:dA Fs ks o q b s) (a1:n≠o) (a2:n≠q) (a3:n≠b):dA Fs ks o q b (s.set n x) :=
 ⟨by rw [yo a1];exact h.at_,oY h.ps a2,by rw [yo a3];exact h.bs,h.n1,h.n2⟩
theorem BF.setG (h:BF Fs ks o q b d a g s0 s L stp cy) (x:Int):BF Fs ks o q b d a g s0 (s.set g (.lst (cy.map PV.int++[.int x]))) L stp (cy++[x]) :=
 have j1:=h.i1;have j2:=h.i2;have j3:=h.i3;have j4:=h.i4;have j5:=h.i5
 ⟨nB h.H (by omega) (by omega) (by omega),by rw [yo (by omega)];exact h.D,by rw [yo (by omega)];exact h.A,by rw [je (yk h.G)];simp,λm so x y z=>by rw [yo (by omega)];exact h.F m so x y z,h.i1,h.i2,h.i3,h.i4,h.i5⟩
theorem BF.setA (h:BF Fs ks o q b d a g s0 s L stp cy) (z:Str):BF Fs ks o q b d a g s0 (s.set a (.lst (stp.map PV.str++[.str z]))) L (stp++[z]) cy :=
 have j1:=h.i1;have j2:=h.i2;have j3:=h.i3;have j4:=h.i4;have j5:=h.i5
 ⟨nB h.H (by omega) (by omega) (by omega),by rw [yo (by omega)];exact h.D,by rw [je (yk h.A)];simp,by rw [yo (by omega)];exact h.G,λm so x y z=>by rw [yo (by omega)];exact h.F m so x y z,h.i1,h.i2,h.i3,h.i4,h.i5⟩
theorem BF.setD (h:BF Fs ks o q b d a g s0 s L stp cy) (z:Str):BF Fs ks o q b d a g s0 (s.set d (.dic (L++[z]) (cx L++[.bl true]))) (L++[z]) stp cy :=
 have j1:=h.i1;have j2:=h.i2;have j3:=h.i3;have j4:=h.i4;have j5:=h.i5
 ⟨nB h.H (by omega) (by omega) (by omega),by rw [je (yk h.D)];simp [cx],by rw [yo (by omega)];exact h.A,by rw [yo (by omega)];exact h.G,λm so x y z=>by rw [yo (by omega)];exact h.F m so x y z,h.i1,h.i2,h.i3,h.i4,h.i5⟩
def BF.lt (h:BF Fs ks o q b d a g s0 s L stp cy):nv L s d:=.inl ⟨_,h.D,by simp⟩
noncomputable abbrev eF (o:Nat) (fv:PV) (bits:Int) (d a g:Nat) (z6 z7:Ao):zm:=[At o,some fv,some (.int bits),At d,At a,At g,z6,z7]
noncomputable abbrev cF:Aj:=(zY (ki (mB (zu lG (zd (zc 6) zo))) (mB (iG "makes_later" oK (zc 0) (zd (ze zv (zc 1) (Ar 0)) (zd (zc 6) (zd (zc 3) zo))))))
  (zw (yK (yF yJ (zc 4) (ze zv (zc 6) (Ar 1))))
  (iH (zc 3) (ze zv (zc 6) (Ar 1)) (mC (.bl true))))
  yd)
noncomputable abbrev bF:Aj:=(zw (zH 7 (zu w8 (zd (zc 6) zo)))
  (zw (zY (mB (ze iK (zc 7) (mC .non)))
  (yK (yF yJ (zc 5) (iG "goal_of" qQ (zc 0) (zd (zc 7) (zd (zc 3) zo)))))
  yd)
  cF))
variable {fv v:PV}{bits:Int}{z7:Ao}{X:Res Fl}
def HM (hv:w8 [v] s=.ok .non s) (h:cF (eF o fv bits d a g (some v) (some .non)) s=X):bF (eF o fv bits d a g (some v) z7) s=X :=
 zB (zN (zE (zL (zf rfl)) hv)) (zB (yD (yc (zp (zf rfl) rfl (show iK .non .non s=.ok (.bl false) s from rfl)))) h)
theorem HN (P:bC Fs) (B:BF Fs ks o q b d a g s0 s L stp cy) {G:FD}(hG:G∈Fs) {as:An}{nk:Ad}(ha:∀x∈as,cv nk x) (hl:G.ps.length=as.length) (hg:cy.length<=1000) (hv:w8 [v] s=.ok (.tup [.str G.nz,.tup as]) s) :
  ∃s',BF Fs ks o q b d a g s0 s' L stp (cy++[gl Fs ks L G.nz as])/\∀X,cF (eF o fv bits d a g (some v) (some (.tup [.str G.nz,.tup as]))) s'=X->bF (eF o fv bits d a g (some v) z7) s=X:=by
 have E:=Ue P B.H hG ha hl B.lt
 rw [<-Bz P hG] at E
 have B1:=B.old (zU s [SO.lst ((as.map (aK L)).map PV.bl)])
 have AP:=wz (y:=.int (gl Fs ks L G.nz as)) B1.G (by simp;omega)
 exact ⟨_,B1.setG _,λX h=>zB (zN (zE (zL (zf rfl)) hv)) (zB (yR (yc (zp (zf rfl) rfl (show iK (.tup [.str G.nz,.tup as]) .non s=.ok (.bl true) s from rfl))) (jW (jL (zf rfl) B.G (By (zf rfl) B.H.at_ (by decide +kernel) (show qQ "Holding" = some m_Holding_goal_of from zF rfl) (zT (zf rfl) (zf rfl)) E) AP))) h)⟩
end
section
variable {Fs:List FD}{ks:Ag}{o q b d a g:Nat}{s0 s s1:aa}{L stp:Ad}{cy:List Int}{fv v:PV}{bits:Int}{z6 z7:Ao}{hs:List (Str×Nat)}{nk:Ad}{z nz:Str}
def HP (h:nQ v):cF (eF o fv bits d a g (some v) z7) s=.ok (.nx (eF o fv bits d a g (some v) z7)) s:=yD (Fp (yc (zE (zL (zf rfl)) (Tx h s))))
theorem HQ {r:An}{c:Bool}(B:BF Fs ks o q b d a g s0 s L stp cy) (h:cL hs nk z v) (hm:m_Holding_makes_later [.ref o,.str nz,v,.ref d] s=.ok (.bl c) s1) (H1:dA Fs ks o q b s1) (br:b0 q s s1) (hz:z∉L) (l1:L.length<=1000) (l2:stp.length<=1000) :
  ∃s2,cF (eF o (.tup (.str nz::r)) bits d a g (some v) z7) s=.ok (.nx (eF o (.tup (.str nz::r)) bits d a g (some v) z7)) s2/\BF Fs ks o q b d a g s0 s2 (if c=true then L++[z] else L) (if c=true then stp++[z] else stp) cy:=by
 have B1:=B.bar br H1
 have T:(ki (mB (zu lG (zd (zc 6) zo))) (mB (iG "makes_later" oK (zc 0) (zd (ze zv (zc 1) (Ar 0)) (zd (zc 6) (zd (zc 3) zo)))))) (eF o (.tup (.str nz::r)) bits d a g (some v) z7) s=.ok c s1 :=
  xT (yc (zE (zL (zf rfl)) (Ht h s))) (yc (By (zf rfl) B.H.at_ (by decide +kernel) (show oK "Holding" = some m_Holding_makes_later from zF rfl) (yL (zp (zf rfl) rfl yN) (zf rfl) (zf rfl)) hm))
 cases c with
 | false=>exact ⟨s1,yD T,B1⟩
 | true =>
  have A:=wz (y:=.str z) B1.A (by simp;omega)
  have B2:=B1.setA z
  have Pt:=tV (fo:=zc 3) (fi:=(ze zv (zc 6) (Ar 1))) (fv:=mC (.bl true)) (e:=eF o (.tup (.str nz::r)) bits d a g (some v) z7) (s:=s1.set a (.lst (stp.map PV.str++[.str z]))) rfl (zf rfl) (zp (zf rfl) rfl (Bn h _)) B2.D l1
  rw [Bx hz] at Pt
  exact ⟨_,yR T (zB (jW (jL (zf rfl) B1.A (zp (zf rfl) rfl (Bn h _)) A)) Pt),B2.setD z⟩
def HR {zz op:Str} {as:An}:w8 [.tup [.str "let", .str zz,.str op,.tup as]] s=.ok .non s:=yg rfl (zB (yD (q0 rfl (dG n1 _))) (zB (yD (q0 rfl (dG n2 _))) (yn rfl)))
def HS {zz f:Str} {as:An}:w8 [.tup [.str "call", .str zz,.str f,.tup as]] s=.ok (.tup [.str f,.tup as]) s:=yg rfl (jV (yR (q0 rfl (fY _)) (yn (zX (zT (zp (zf rfl) rfl wT) (zp (zf rfl) rfl iN)) (by simp)))))
def HU {f:Str} {as:An}:w8 [.tup [.str "go", .str f,.tup as]] s=.ok (.tup [.str f,.tup as]) s:=yg rfl (zB (yD (q0 rfl (dG n7 _))) (jV (yR (q0 rfl (fY _)) (yn (zX (zT (zp (zf rfl) rfl js) (zp (zf rfl) rfl wT)) (by simp))))))
def ur {w:Str} {r:An} (h1:w ≠ "call") (h2:w ≠ "go"):w8 [.tup (.str w::r)] s=.ok .non s:=yg rfl (zB (yD (q0 rfl (dG h1 _))) (zB (yD (q0 rfl (dG h2 _))) (yn rfl)))
end
theorem Uk {Fs:List FD}(P:bC Fs) {ks:Ag}{o q b d a g:Nat}{s0:aa}{bits:Int}{nz:Str}{r:An}{nk:Ad}{ls:An}{zs:Ad}(h:cb (Fs.map FD.h) nk ls zs):∀{s:aa}{L stp:Ad}{cy:List Int}{z6 z7:Ao},BF Fs ks o q b d a g s0 s L stp cy->(∀z∈L,z∈nk)->(nk++zs).Nodup->L.length+ls.length<=900->stp.length+ls.length<=900->cy.length+ls.length<=900 ->
  ∃s' L' y6 y7,forL (gN 6) bF ls (eF o (.tup (.str nz::r)) bits d a g z6 z7) s=.ok (.nx (eF o (.tup (.str nz::r)) bits d a g y6 y7)) s'/\BF Fs ks o q b d a g s0 s' L' (stp++(wk Fs ks nz L (ls.map li)).1) (cy++(wk Fs ks nz L (ls.map li)).2):=by
 induction h with
 | nil nk=>intro s L stp cy z6 z7 B _ _ _ _ _;exact ⟨s,L,z6,z7,rfl,by simpa [wk] using B⟩
 | stp nk z v ls zs hv cI ih =>
  intro s L stp cy z6 z7 B hL nd l1 l2 l3
  simp only [jP] at l1 l2 l3
  have kI:(nk++[z]++zs).Nodup:=by simpa using nd
  have zk:z∉nk:=λhm=>(List.nodup_append.mp nd).2.2 z hm z (y0 ..) rfl
  have hz:z∉L:=λhm=>zk (hL z hm)
  have h1:∀y∈L,y∈nk++[z]:=λy hy=>gh _ (hL y hy)
  have h2:∀y∈L++[z],y∈nk++[z]:=λy hy=>by
   rcases wu.mp hy with k|k
   ·exact h1 y k
   ·exact jn _ k
  cases hv with
  | let_ op n as ho ha bT =>
   have al:as.length<=1000:=by have:=A6 _ ho;simp at this;omega
   obtain ⟨s1,hm,H1,br⟩:=Uj (nz:=nz) B.H (cL.let_ (hs:=Fs.map FD.h) op n as ho ha bT) bT al B.lt
   obtain ⟨s2,E,B2⟩:=HQ (r:=r) (bits:=bits) (z7:=some .non) B (cL.let_ (hs:=Fs.map FD.h) op n as ho ha bT) hm H1 br hz (by omega) (by omega)
   have E0:=HM (z7:=z7) HR E
   rw [yu,lL]
   unfold wk
   cases hc:(as.any (aK L)||a5 (pk nz z) ks) with
   | true =>
    rw [hc] at B2
    simp only [zF] at B2
    obtain ⟨s',L',y6,y7,E',B'⟩:=ih (z6:=some (.tup [.str "let", .str z,.str op,.tup as])) (z7:=some .non) B2 h2 kI (by simp;omega) (by simp;omega) (by omega)
    refine ⟨s',L',y6,y7,?_,by simpa using B'⟩
    unfold forL
    show (bF (eF o (.tup (.str nz::r)) bits d a g (some _) z7) s).bind _=_
    rw [E0,zG]
    exact E'
   | false =>
    rw [hc] at B2
    simp only [Bool.false_eq_true,if_false] at B2
    obtain ⟨s',L',y6,y7,E',B'⟩:=ih (z6:=some (.tup [.str "let", .str z,.str op,.tup as])) (z7:=some .non) B2 h1 kI (by omega) (by omega) (by omega)
    refine ⟨s',L',y6,y7,?_,by simpa using B'⟩
    unfold forL
    show (bF (eF o (.tup (.str nz::r)) bits d a g (some _) z7) s).bind _=_
    rw [E0,zG]
    exact E'
  | call f as hf bT =>
   obtain ⟨G,hG,rfl,hl⟩:=uq hf
   obtain ⟨s1,B1,K⟩:=HN (fv:=.tup (.str nz::r)) (bits:=bits) (z7:=z7) P B hG bT hl (by omega) (HS (zz:=z))
   obtain ⟨s2,E,B2⟩:=HQ (r:=r) (bits:=bits) (z7:=some (.tup [.str G.nz,.tup as])) B1 (cL.call (hs:=Fs.map FD.h) G.nz as hf bT) (Uh (q:=q) (b:=b)) B1.H (b0.refl _ _) hz (by omega) (by omega)
   have E0:=K _ E
   simp only [zF] at B2
   obtain ⟨s',L',y6,y7,E',B'⟩:=ih (z6:=some (.tup [.str "call", .str z,.str G.nz,.tup as])) (z7:=some (.tup [.str G.nz,.tup as])) B2 h2 kI (by simp;omega) (by simp;omega) (by simp;omega)
   rw [yu,lM]
   unfold wk
   refine ⟨s',L',y6,y7,?_,by simpa using B'⟩
   unfold forL
   show (bF (eF o (.tup (.str nz::r)) bits d a g (some _) z7) s).bind _=_
   rw [E0,zG]
   exact E'
 | fin nk e ls zs he cI ih =>
  intro s L stp cy z6 z7 B hL nd l1 l2 l3
  simp only [jP] at l1 l2 l3
  have no:∀{w:Str} {rr:An},e=.tup (.str w::rr)->w ≠ "call" -> w ≠ "go" -> li e=.oth->∃s' L' y6 y7,forL (gN 6) bF (e::ls) (eF o (.tup (.str nz::r)) bits d a g z6 z7) s=.ok (.nx (eF o (.tup (.str nz::r)) bits d a g y6 y7)) s'/\BF Fs ks o q b d a g s0 s' L' (stp++(wk Fs ks nz L ((e::ls).map li)).1) (cy++(wk Fs ks nz L ((e::ls).map li)).2):=λUl Um Uo rn=>by
   have E0:=HM (fv:=.tup (.str nz::r)) (bits:=bits) (z7:=z7) (s:=s) (o:=o) (d:=d) (a:=a) (g:=g) (v:=e) (by rw [Ul];exact ur Um Uo) (HP (uc he))
   obtain ⟨s',L',y6,y7,E',B'⟩:=ih (z6:=some e) (z7:=some .non) B hL nd (by omega) (by omega) (by omega)
   rw [yu,rn]
   unfold wk
   refine ⟨s',L',y6,y7,?_,B'⟩
   unfold forL
   show (bF (eF o (.tup (.str nz::r)) bits d a g (some e) z7) s).bind _=_
   rw [E0,zG]
   exact E'
  cases he with
  | give x hx=>exact no rfl n3 n4 (by cases hx<;>rfl)
  | fail w=>exact no rfl n5 n6 rfl
  | if_ x v1 v2 hx=>exact no rfl n8 n9 (by cases hx<;>rfl)
  | go f as hf bT =>
   obtain ⟨G,hG,rfl,hl⟩:=uq hf
   obtain ⟨s1,B1,K⟩:=HN (fv:=.tup (.str nz::r)) (bits:=bits) (z7:=z7) P B hG bT hl (by omega) HU
   have E0:=K _ (HP (uc (dW.go (hs:=Fs.map FD.h) G.nz as hf bT)))
   obtain ⟨s',L',y6,y7,E',B'⟩:=ih (z6:=some (.tup [.str "go", .str G.nz,.tup as])) (z7:=some (.tup [.str G.nz,.tup as])) B1 hL nd (by omega) (by omega) (by simp;omega)
   rw [yu,lN]
   unfold wk
   refine ⟨s',L',y6,y7,?_,by simpa using B'⟩
   unfold forL
   show (bF (eF o (.tup (.str nz::r)) bits d a g (some _) z7) s).bind _=_
   rw [E0,zG]
   exact E'
noncomputable abbrev d_ (Fs:List FD) (ks:Ag) (F:FD) (bits:Int):List Str×List Int:=wk Fs ks F.nz (picks (bitAt bits) 0 F.ps) (F.ls.map li)
noncomputable def ck (Fs:List FD) (ks:Ag) (F:FD) (bits:Int):PV:=.tup [.str F.nz,.int bits,.tup ((d_ Fs ks F bits).1.map PV.str),.tup ((d_ Fs ks F bits).2.map PV.int)]
def HV {p:Nat->Bool}{zs:Ad}{i:Nat}:(picks p i zs).length<=zs.length:=rg.length_le
theorem Up {Fs:List FD}(P:bC Fs) {ks:Ag}{o q b:Nat}{s:aa}(H:dA Fs ks o q b s) {F:FD}(hF:F∈Fs) (bits:Int) (hb:0<=bits):∃s1,m_Holding_best_form [.ref o,F.v,.int bits] s=.ok (ck Fs ks F bits) s1/\dA Fs ks o q b s1/\b0 q s s1/\s.length<=s1.length:=by
 have ok:=P.fn F hF
 obtain ⟨dd,oS,B⟩:=ok.bk
 have np:=ok.np
 have nl:=ok.nl
 let L0:=picks (bitAt bits) 0 F.ps
 have l0:L0.length<=F.ps.length:=HV
 have sub:∀z∈L0,z∈F.ps:=λz hz=>rg.subset hz
 have uv:L0.Nodup:=((List.nodup_append.mp ok.nd).1).sublist rg
 let t1:=s++[SO.lst (L0.map PV.str)]
 have E1:tO [F.v,.int bits] s=.ok (.tup (L0.map PV.str)) t1:=T7 (f:=.str F.nz) (r:=[F.bv]) bits hb (by omega) s
 obtain ⟨t2,E2,hd2,o2⟩:=TY L0 uv (by omega) t1
 let t3:=t2++[SO.lst []]
 let t4:=t3++[SO.lst []]
 have o4:Old s t4:=(zU _ _).trans (o2.trans ((zU _ _).trans (zU _ _)))
 have ol:=yk H.at_
 have ql:=H.ps.lt
 have bl:=yk H.bs
 have l1:t1.length=s.length+1:=by simp [t1]
 have l2:t1.length<t2.length:=yk hd2
 have l3:t3.length=t2.length+1:=by simp [t3]
 have Uq:BF Fs ks o q b t1.length t2.length t3.length t4 t4 L0 [] []:=⟨H.old o4,zU _ _ _ _ (zU _ _ _ _ hd2),zU _ _ _ _ (yj _ _),yj _ _,λ_ _ _ _ e=>e,by omega,by omega,by omega,by omega,by omega⟩
 obtain ⟨s',L',y6,y7,E,B'⟩:=Uk P (bits:=bits) (nz:=F.nz) (r:=[.tup (F.ps.map PV.str),F.bv]) ok.ln (z6:=none) (z7:=none) Uq sub ok.nd (by omega) (by simp;omega) (by simp;omega)
 have LN:=Hm (st:=t4) 12 B (by omega) (by omega)
 have FO:(yV (yG (zu (lF 12) (zd (ze zv (zc 1) (Ar 2)) zo))) (gN 6) bF) (eF o F.v bits t1.length t2.length t3.length none none) t4=.ok (.nx (eF o F.v bits t1.length t2.length t3.length y6 y7)) s':=by
  rw [wN,jz,zE (zL (zp (zf rfl) rfl wT)) LN,zG]
  show (Res.ok (Sq.im F.ls) t4).bind _=_
  rw [zG]
  exact E
 have B1:=B'
 rw [List.nil_append,List.nil_append] at B1
 refine ⟨s',yg rfl (zB (zN (zE (zL (zE (zT (zf rfl) (zf rfl)) E1)) E2)) (zB (zN (jh jt (by simp))) (zB (zN (jh jt (by simp))) (zB FO (yn (zX (wo (zp (zf rfl) rfl yN) (zf rfl) (zE (zL (zf rfl)) (by rw [wm,yr B1.A])) (zE (zL (zf rfl)) (by rw [wm,yr B1.G]))) (by simp))))))),B1.H,λm so hm e=>B1.F m so hm (by have:=yk e;omega) (o4 _ _ e),?_⟩
 have:=yk B1.G
 omega
noncomputable def aimL:Li->Option (Str×List PV)
 | .call _ f as=>some (f,as)
 | .go f as=>some (f,as)
 | _=>none
noncomputable abbrev a8 (ls:An):List (Str×List PV):=(ls.map li).filterMap aimL
noncomputable def eh:Option (Str×List PV)->PV
 | some (f,as)=>.tup [.str f,.tup as]
 | none=>.non
def rq {hs:List (Str×Nat)}{nk:Ad}{ls:An}{zs:Ad}(h:cb hs nk ls zs):∀l∈ls,(∃k z,cL hs k z l)\/∃k,dW hs k l:=by
 induction h with
 | nil=>intro l hl;cases hl
 | stp nk z v ls zs hv _ ih =>
  intro l hl
  rcases yC.mp hl with e|e
  ·rw [e];exact .inl ⟨nk,z,hv⟩
  ·exact ih l e
 | fin nk e ls zs he _ ih =>
  intro l hl
  rcases yC.mp hl with k|k
  ·rw [k];exact .inr ⟨nk,he⟩
  ·exact ih l k
def Ur {hs:List (Str×Nat)}{l:PV}(h:(∃k z,cL hs k z l)\/∃k,dW hs k l) (s:aa):w8 [l] s=.ok (eh (aimL (li l))) s:=by
 rcases h with ⟨k,z,h⟩|⟨k,h⟩
 ·cases h with
  | let_ o n as=>rw [lL];exact HR
  | call f as=>rw [lM];exact HS
 ·cases h with
  | give x hx=>rw [show li (.tup [.str "give", x])=.oth by cases hx<;>rfl];exact ur n3 n4
  | fail w=>exact ur n5 n6
  | go f as=>rw [lN];exact HU
  | if_ x v1 v2 hx=>rw [show li (.tup [.str "if", x,v1,v2])=.oth by cases hx<;>rfl];exact ur n8 n9
def Us (x:PV) (s:aa):iK x .non s=.ok (.bl (!d6 x)) s:=by cases x<;>rfl
noncomputable abbrev dm (ls:An):An:=(a8 ls).map λp=>eh (some p)
def Ut (ls:An):((ls.map λl=>eh (aimL (li l))).flatMap λx=>if (!d6 x)=true then [x] else [])=dm ls:=by
 induction ls with
 | nil=>rfl
 | cons w ws ih =>
  rw [yu,rE,ih]
  show _=(List.filterMap aimL (li w::ws.map li)).map _
  rw [List.filterMap_cons]
  cases aimL (li w) with
  | none=>rfl
  | some p=>rfl
theorem Uu {hs:List (Str×Nat)}{bv:PV}{ls:An}{dd:Nat}{nk zs:Ad}(B:Bk bv ls dd) (hd:dd<12) (hl:ls.length<=1000) (hn:cb hs nk ls zs) (st:aa):∃s1,AU [bv] st=.ok (.tup (dm ls)) s1/\Old st s1:=by
 have E:=Hm (st:=st) 12 B hd (by omega)
 have al:=rq hn
 let s1:=st++[SO.lst (ls.map λl=>eh (aimL (li l)))]
 have C:(jd (yG (zu (lF 12) (zd (zc 0) zo))) (zu w8 (zd (zc 0) zo))) [some bv,none] st=.ok (.ref st.length) s1:=by
  rw [iI,jz,zE (zL (zf rfl)) E]
  simp only [zG,gM]
  rw [iJ,zF (by simp [lim];omega)]
  exact lB _ (λw hw=>zE (zL (zf rfl)) (Ur (al w hw) st)) []
 let s2:=s1++[SO.lst (dm ls)]
 have C2:(lC (yG (zc 1)) (mB (ze iK (zc 0) (mC .non))) (zc 0)) [some bv,At st.length] s1=.ok (.ref s1.length) s2:=by
  rw [Fo,jz,zf rfl]
  simp only [zG,gM]
  rw [yr (yj _ _)]
  have:=AZ (ft:=(mB (ze iK (zc 0) (mC .non)))) (fe:=zc 0) (env:=[some bv,At st.length]) (st:=s1) (n:=st.length) (p:=λx=>!d6 x) (f:=λx=>x) (ls.map λl=>eh (aimL (li l))) (yj _ _) (λx hx=>yc (zp (zf rfl) rfl (Us x _))) (λx hx _=>zf rfl) (ls.map λl=>eh (aimL (li l))).length 0 (lim+1) [] (by omega) (by simp [lim];omega)
  rw [List.drop_zero,Ut] at this
  exact this
 exact ⟨s2,yg rfl (zB (zN C) (yn (zE (zL C2) (by rw [wm,yr (yj _ _)])))),(zU _ _).trans (zU _ _)⟩
noncomputable abbrev cJ (p:Str×Int):List Key:=[.inr p.1,.inl p.2]
noncomputable abbrev bE (p:Str×Int):PV:=.tup [.str p.1,.int p.2]
noncomputable abbrev cV (Fs:List FD) (ks:Ag) (F:FD) (bits:Int):List (Str×Int):=((a8 F.ls).map (·.1)).zip (d_ Fs ks F bits).2
theorem HW {env:zm}{st:aa}:∀(as:List (Str×List PV)) (gs:List Int) (ys:An),wP (zC (zd (ze zv (zc 0) (Ar 0)) (zd (zc 1) zo))) env (wD (as.map λp=>eh (some p)) (gs.map PV.int)) ys st=.ok (.ref st.length) (st++[.lst (ys++((as.map (·.1)).zip gs).map bE)])
 | [],gs,ys=>by cases gs<;>simp [wD,wP]
 | a::as,[],ys=>by simp [wD,wP]
 | (f,as0)::as,g::gs,ys=>by
  have ih:=HW (env:=env) (st:=st) as gs (ys++[bE (f,g)])
  rw [yu,yu]
  show wP _ env (.tup [.tup [.str f,.tup as0],.int g]::wD _ _) ys st=_
  have E:(zC (zd (ze zv (zc 0) (Ar 0)) (zd (zc 1) zo))) (some (.tup [.str f,.tup as0])::some (.int g)::env) st=.ok (bE (f,g)) st:=zX (zT (zp (zf rfl) rfl yN) (zf rfl)) (by simp)
  unfold wP
  simp only [pairOf]
  rw [E,mI,zG,ih]
  simp
theorem Uv {Fs:List FD}(P:bC Fs) {F:FD}(hF:F∈Fs) (gs:List Int) (st:aa):∃r s1,qS [F.v,.tup (gs.map PV.int)] st=.ok (.ref r) s1/\s1[r]?=some (.lst ((((a8 F.ls).map (·.1)).zip gs).map bE))/\(∀(m:Nat) so,st[m]?=some so->m<r)/\Old st s1:=by
 have ok:=P.fn F hF
 obtain ⟨dd,oS,B⟩:=ok.bk
 have nl:=ok.nl
 obtain ⟨s1,E,o⟩:=Uu B (by omega) (by omega) ok.ln st
 have C:=HW (env:=[some F.v,some (.tup (gs.map PV.int))]) (st:=s1) (a8 F.ls) gs []
 rw [List.nil_append] at C
 have zl:(wD (dm F.ls) (gs.map PV.int)).length<=lim:=by
  have h1:∀(xs ys:An),(wD xs ys).length<=xs.length:=λxs ys=>by simp [wD];omega
  have h2:=h1 (dm F.ls) (gs.map PV.int)
  have h3:(dm F.ls).length<=F.ls.length:=by
   rw [yI]
   exact ja (List.length_filterMap_le _ _) (by simp)
  have:lim=1000000:=rfl
  omega
 refine ⟨s1.length,_,yg rfl (yn ?_),yj _ _,λm so e=>yk (o _ _ e),o.trans (zU _ _)⟩
 rw [Qe]
 show (Res.bind (Res.bind _ _) _)=_
 rw [zT (zE (zL (zp (zf rfl) rfl wT)) E) (zf rfl),zG]
 show (Res.bind (Res.ok (Sq.im (wD (dm F.ls) (gs.map PV.int))) s1) _)=_
 rw [zG]
 show (if _ then _ else _)=_
 rw [zF zl]
 exact C
abbrev Pr:=Str×Int
noncomputable def ba (met:List Pr) (p:Pr):List Pr:=if p∈met then met else met++[p]
noncomputable def aV (Fs:List FD) (ks:Ag) (p:Pr):PV:=match Fs.find? λF=>decide (F.nz=p.1) with
 | some F=>ck Fs ks F p.2
 | none=>.non
noncomputable def bJ (Fs:List FD) (ks:Ag) (p:Pr):List Pr:=match Fs.find? λF=>decide (F.nz=p.1) with
 | some F=>cV Fs ks F p.2
 | none=>[]
def Gd (Fs:List FD) (p:Pr):Prop:=∃F∈Fs,F.nz=p.1/\0<=p.2/\p.2<2 ^ F.ps.length
inductive fG (Fs:List FD) (ks:Ag):Nat->List Pr->List Pr->Prop
 | done (met:List Pr):fG Fs ks met.length met met
 | step (i:Nat) (met fin:List Pr) (p:Pr):met[i]?=some p->fG Fs ks (i+1) ((bJ Fs ks p).foldl ba met) fin->fG Fs ks i met fin
def Uw {met:List Pr}{p:Pr}(h:met.Nodup):(ba met p).Nodup:=by
 unfold ba
 by_cases hp:p∈met
 ·rw [zF hp];exact h
 ·rw [zP hp,List.nodup_append]
  exact ⟨h,by simp,λa ha b hb e=>hp (by rw [jN.mp hb] at e;exact e▸ha)⟩
def Ux {met:List Pr}{p x:Pr}(h:x∈ba met p):x∈met\/x=p:=by
 unfold ba at h
 split at h
 ·exact .inl h
 ·rcases wu.mp h with q|q
  ·exact .inl q
  ·exact .inr (jN.mp q)
def Uy {met:List Pr}{p:Pr}:∃t,ba met p=met++t:=by
 unfold ba
 split
 ·exact ⟨[],by simp⟩
 ·exact ⟨_,rfl⟩
def BA {l:List Pr}:∀{met:List Pr},met.Nodup->(l.foldl ba met).Nodup:=by
 induction l with
 | nil=>intro met h;exact h
 | cons p l ih=>intro met h;exact ih (Uw h)
def BB {l:List Pr}:∀{met:List Pr}{x:Pr},x∈l.foldl ba met->x∈met\/x∈l:=by
 induction l with
 | nil=>intro met x h;exact .inl h
 | cons p l ih =>
  intro met x h
  rcases ih h with q|q
  ·rcases Ux q with k|k
   ·exact .inl k
   ·rw [k];exact .inr (y0 ..)
  ·exact .inr (jm _ q)
def HX {l:List Pr}:∀{met:List Pr},∃t,l.foldl ba met=met++t:=by
 induction l with
 | nil=>intro met;exact ⟨[],by simp⟩
 | cons p l ih =>
  intro met
  obtain ⟨t,e⟩:=Uy (met:=met) (p:=p)
  obtain ⟨t',e'⟩:=ih (met:=ba met p)
  exact ⟨t++t',by rw [List.foldl_cons,e',e,kK]⟩
theorem BC:∀{a b:List Bool},a.length=b.length->(f7 a b).length=b.length
 | [],[],_=>rfl
 | [],_::_,h=>by simp at h
 | _::_,[],h=>by simp at h
 | x::a,y::b,h=>by simp [f7,BC (a:=a) (b:=b) (by simpa using h)]
theorem HY {Fs:List FD}(P:bC Fs) {ks:Ag}{L:Ad}{f:Str}{as:An}(h:(f,as.length)∈Fs.map FD.h):Gd Fs (f,gl Fs ks L f as):=by
 obtain ⟨F,hF,rfl,hl⟩:=uq h
 rw [Bz P hF]
 refine ⟨F,hF,rfl,uh _,?_⟩
 have:=Bi (bI ks L F as)
 unfold bI at this ⊢
 rw [BC (by simp;omega),yI] at this
 exact this
def HZ {Fs:List FD}(P:bC Fs) {ks:Ag}{nz:Str}{nk:Ad}{ls:An}{zs:Ad}(h:cb (Fs.map FD.h) nk ls zs):∀(L:Ad),(wk Fs ks nz L (ls.map li)).2.length=(a8 ls).length/\∀p∈((a8 ls).map (·.1)).zip (wk Fs ks nz L (ls.map li)).2,Gd Fs p:=by
 induction h with
 | nil=>intro L;exact ⟨rfl,λp h=>by simp [wk] at h⟩
 | stp nk z v ls zs hv _ ih =>
  intro L
  cases hv with
  | let_ o n as =>
   show (wk Fs ks nz L (li _::ls.map li)).2.length=(List.filterMap aimL (li _::ls.map li)).length/\∀p∈((List.filterMap aimL (li _::ls.map li)).map (·.1)).zip (wk Fs ks nz L (li _::ls.map li)).2,Gd Fs p
   rw [lL]
   unfold wk
   rw [show List.filterMap aimL (Li.let_ z as::ls.map li)=a8 ls from rfl]
   split
   ·exact ih _
   ·exact ih _
  | call f as hf bT =>
   show (wk Fs ks nz L (li _::ls.map li)).2.length=(List.filterMap aimL (li _::ls.map li)).length/\∀p∈((List.filterMap aimL (li _::ls.map li)).map (·.1)).zip (wk Fs ks nz L (li _::ls.map li)).2,Gd Fs p
   rw [lM]
   unfold wk
   rw [show List.filterMap aimL (Li.call z f as::ls.map li)=(f,as)::a8 ls from rfl]
   obtain ⟨h1,h2⟩:=ih (L++[z])
   refine ⟨by simpa using h1,λp hp=>?_⟩
   rw [yu,List.zip_cons_cons] at hp
   rcases yC.mp hp with e|e
   ·rw [e];exact HY P hf
   ·exact h2 p e
 | fin nk e ls zs he _ ih =>
  intro L
  have no:li e=.oth->(wk Fs ks nz L ((e::ls).map li)).2.length=(a8 (e::ls)).length/\∀p∈((a8 (e::ls)).map (·.1)).zip (wk Fs ks nz L ((e::ls).map li)).2,Gd Fs p:=λrn=>by
   show (wk Fs ks nz L (li _::ls.map li)).2.length=(List.filterMap aimL (li _::ls.map li)).length/\∀p∈((List.filterMap aimL (li _::ls.map li)).map (·.1)).zip (wk Fs ks nz L (li _::ls.map li)).2,Gd Fs p
   rw [rn]
   exact ih L
  cases he with
  | give x hx=>exact no (by cases hx<;>rfl)
  | fail w=>exact no rfl
  | if_ x v1 v2 hx=>exact no (by cases hx<;>rfl)
  | go f as hf bT =>
   show (wk Fs ks nz L (li _::ls.map li)).2.length=(List.filterMap aimL (li _::ls.map li)).length/\∀p∈((List.filterMap aimL (li _::ls.map li)).map (·.1)).zip (wk Fs ks nz L (li _::ls.map li)).2,Gd Fs p
   rw [lN]
   unfold wk
   rw [show List.filterMap aimL (Li.go f as::ls.map li)=(f,as)::a8 ls from rfl]
   obtain ⟨h1,h2⟩:=ih L
   refine ⟨by simpa using h1,λp hp=>?_⟩
   rw [yu,List.zip_cons_cons] at hp
   rcases yC.mp hp with e|e
   ·rw [e];exact HY P hf
   ·exact h2 p e
def BD {Fs:List FD}(P:bC Fs) {ks:Ag}{p:Pr}:∀x∈bJ Fs ks p,Gd Fs x:=by
 intro x hx
 unfold bJ at hx
 cases h:Fs.find? λF=>decide (F.nz=p.1) with
 | none=>rw [h] at hx;cases hx
 | some F =>
  rw [h] at hx
  exact (HZ P (P.fn F (List.mem_of_find?_eq_some h)).ln _).2 x hx
noncomputable def rz (Fs:List FD):List Pr:=Fs.flatMap λF=>(List.range (2 ^ F.ps.length)).map λ(j:Nat)=>(F.nz,(j:Int))
def Uz {Fs:List FD}{p:Pr}(h:Gd Fs p):p∈rz Fs:=by
 obtain ⟨F,hF,e,h0,h1⟩:=h
 obtain ⟨f,b⟩:=p
 simp only at e h0 h1
 subst e
 refine List.mem_flatMap.mpr ⟨F,hF,jv.mpr ⟨b.toNat,gj.mpr ?_,?_⟩⟩
 ·have:((b.toNat:Nat):Int)<((2 ^ F.ps.length:Nat):Int):=by rw [Int.toNat_of_nonneg h0];simpa using h1
  exact_mod_cast this
 ·rw [Int.toNat_of_nonneg h0]
theorem UA {Fs:List FD}(P:bC Fs):(rz Fs).length<=12800:=by
 have key:∀(l:List FD),(∀F∈l,F.ps.length<=6)->(l.flatMap λF=>(List.range (2 ^ F.ps.length)).map λ(j:Nat)=>(F.nz,(j:Int))).length<=l.length*64:=λl=>by
  induction l with
  | nil=>intro _;simp
  | cons F l ih =>
   intro h
   have h1:=h F (y0 ..)
   have h2:=ih λG hG=>h G (jm _ hG)
   have h3:2 ^ F.ps.length<=2 ^ 6:=Nat.pow_le_pow_right (by decide) h1
   rw [rE,h_,yI,List.length_range,jP]
   omega
 have:=key Fs λF hF=>(P.fn F hF).np
 have:=P.few
 unfold rz
 omega
theorem H8:∀{l u:List Pr},l.Nodup->(∀x∈l,x∈u)->l.length<=u.length
 | [],u,_,_=>jB _
 | x::l,u,nd,h=>by
  rw [jH] at nd
  have hx:=h x (y0 ..)
  have ih:=H8 (l:=l) (u:=u.erase x) nd.2 λy hy=>(List.mem_erase_of_ne (show y≠x from λe=>nd.1 (by rw [<-e];exact hy))).mpr (h y (jm _ hy))
  rw [List.length_erase_of_mem hx] at ih
  have:0<u.length:=List.length_pos_of_mem hx
  simp only [jP]
  omega
def rA {Fs:List FD}(P:bC Fs) {met:List Pr}(nd:met.Nodup) (g:∀x∈met,Gd Fs x):met.length<=12800:=ja (H8 nd λx hx=>Uz (g x hx)) (UA P)
def UB {p p':Pr}(h:cJ p=cJ p'):p=p':=by
 obtain ⟨a,b⟩:=p
 obtain ⟨a',b'⟩:=p'
 simp only [cJ,List.cons.injEq,Sum.inr.injEq,Sum.inl.injEq,and_true] at h
 rw [h.1,h.2]
def BE (p:Pr) (met:List Pr):a5 (cJ p) (met.map cJ)=decide (p∈met):=by
 rw [Bool.eq_iff_iff,tF,nS,jv]
 exact ⟨λ⟨x,hx,e⟩=>UB e▸hx,λh=>⟨p,h,rfl⟩⟩
structure BS (Fs:List FD) (ks:Ag) (f3 o q b m5 m6 m7:Nat) (st s:aa) (met:List Pr) (eM:An):Prop where
 Fd:s[f3]?=some (.dic (Fs.map (·.nz)) (Fs.map FD.v))
 H:dA Fs ks o q b s
 M:s[m5]?=some (.lst (met.map bE))
 K:IsT (met.map cJ) s m6
 G:s[m7]?=some (.lst eM)
 F:∀(m:Nat) so,st[m]?=some so->s[m]?=some so
 j0:st.length<=f3
 j1:f3<o
 j2:o<q
 j3:q<b
 j4:b<m5
 j5:m5<m6
 j6:m6<m7
section
variable {Fs:List FD}{ks:Ag}{f3 o q b m5 m6 m7:Nat}{st s s':aa}{met:List Pr}{eM:An}
theorem BS.bar (h:BS Fs ks f3 o q b m5 m6 m7 st s met eM) (k:b0 q s s') (H:dA Fs ks o q b s'):BS Fs ks f3 o q b m5 m6 m7 st s' met eM:=by
 obtain ⟨h1,h2,h3,h4,h5,h6,j0,j1,j2,j3,j4,j5,j6⟩:=h
 refine ⟨k _ _ (by omega) h1,H,k _ _ (by omega) h3,?_,k _ _ (by omega) h5,λm so e=>k m so (by have:=yk e;omega) (h6 m so e),j0,j1,j2,j3,j4,j5,j6⟩
 unfold IsT at h4 ⊢
 cases e:s[m6]? with
 | none=>rw [e] at h4;cases h4
 | some so=>rw [k m6 so (by omega) e];rw [e] at h4;exact h4
def BS.old (h:BS Fs ks f3 o q b m5 m6 m7 st s met eM) (k:Old s s'):BS Fs ks f3 o q b m5 m6 m7 st s' met eM:=h.bar k.bar (h.H.old k)
theorem BS.setK (h:BS Fs ks f3 o q b m5 m6 m7 st s met eM):BS Fs ks f3 o q b m5 m6 m7 st (s.set m6 (.dit (met.map cJ) (cx (met.map cJ)))) met eM:=by
 obtain ⟨h1,h2,h3,h4,h5,h6,j0,j1,j2,j3,j4,j5,j6⟩:=h
 exact ⟨by rw [yo (by omega)];exact h1,nB h2 (by omega) (by omega) (by omega),by rw [yo (by omega)];exact h3,oV h4.lt,by rw [yo (by omega)];exact h5,λm so e=>by rw [yo (by have:=yk e;omega)];exact h6 m so e,j0,j1,j2,j3,j4,j5,j6⟩
theorem BS.add (h:BS Fs ks f3 o q b m5 m6 m7 st s met eM) (p:Pr):BS Fs ks f3 o q b m5 m6 m7 st ((s.set m6 (.dit ((met++[p]).map cJ) (cx ((met++[p]).map cJ)))).set m5 (.lst (met.map bE++[bE p]))) (met++[p]) eM:=by
 obtain ⟨h1,h2,h3,h4,h5,h6,j0,j1,j2,j3,j4,j5,j6⟩:=h
 have l6:=h4.lt
 refine ⟨by rw [yo (by omega),yo (by omega)];exact h1,nB (nB h2 (by omega) (by omega) (by omega)) (by omega) (by omega) (by omega),?_,oY (oV l6) (by omega),by rw [yo (by omega),yo (by omega)];exact h5,λm so e=>by have:=yk e;rw [yo (by omega),yo (by omega)];exact h6 m so e,j0,j1,j2,j3,j4,j5,j6⟩
 rw [je (by rw [List.length_set];exact yk h3),ju]
 rfl
theorem BS.setG (h:BS Fs ks f3 o q b m5 m6 m7 st s met eM) (v:PV):BS Fs ks f3 o q b m5 m6 m7 st (s.set m7 (.lst (eM++[v]))) met (eM++[v]):=by
 obtain ⟨h1,h2,h3,h4,h5,h6,j0,j1,j2,j3,j4,j5,j6⟩:=h
 exact ⟨by rw [yo (by omega)];exact h1,nB h2 (by omega) (by omega) (by omega),by rw [yo (by omega)];exact h3,oY h4 (by omega),je (yk h5),λm so e=>by rw [yo (by have:=yk e;omega)];exact h6 m so e,j0,j1,j2,j3,j4,j5,j6⟩
noncomputable abbrev eW (fs:An) (bits:Int) (ws:PV) (f3 o m5 m6 m7:Nat) (z8 z9 z10 z11:Ao):zm:=[some (.tup fs),some (.int bits),some ws,At f3,At o,At m5,At m6,At m7,z8,z9,z10,z11]
noncomputable abbrev cB:Aj:=(zY (mB (ze (cH (yH true) true) (zc 11) (zc 6)))
  (zw (mV (zc 6) (zc 11) (mC (.bl true)))
  (yK (yF yJ (zc 5) (zc 11))))
  yd)
theorem UC {l:List Pr}:∀{met:List Pr},(l.foldl ba met).length<=met.length+l.length:=by
 induction l with
 | nil=>intro met;simp
 | cons p l ih =>
  intro met
  have h1:=ih (met:=ba met p)
  have h2:(ba met p).length<=met.length+1:=by unfold ba;split<;>simp
  rw [List.foldl_cons,jP]
  omega
theorem UD {fs:An}{bits:Int}{ws:PV}{z8 z9 z10 z11:Ao}{r:Nat}{nx:List Pr}(B:BS Fs ks f3 o q b m5 m6 m7 st s met eM) (hr:s[r]?=some (.lst (nx.map bE))) (rl:m7<r) (hl:met.length+nx.length<=90000) :
  ∃s' y,forR (gN 11) cB r (lim+1) 0 (eW fs bits ws f3 o m5 m6 m7 z8 z9 z10 z11) s=.ok (.nx (eW fs bits ws f3 o m5 m6 m7 z8 z9 z10 y)) s'/\BS Fs ks f3 o q b m5 m6 m7 st s' (nx.foldl ba met) eM:=by
 obtain ⟨e',s',F,⟨y,he⟩,B',_⟩:=oO (g:=gN 11) (body:=cB) (n:=r) (nx.map bE) (λi e s=>(∃y,e=eW fs bits ws f3 o m5 m6 m7 z8 z9 z10 y)/\BS Fs ks f3 o q b m5 m6 m7 st s ((nx.take i).foldl ba met) eM/\s[r]?=some (.lst (nx.map bE))) (λi e s h=>h.2.2) (λi x e s hx ⟨⟨y,he⟩,B,hr⟩=>by
  subst he
  rw [yM] at hx
  obtain ⟨p,hp,rfl⟩:=Option.map_eq_some_iff.mp hx
  have hi:i<nx.length:=(yt.mp hp).1
  have ml:((nx.take i).foldl ba met).length<=90000:=by have:=UC (l:=nx.take i) (met:=met);simp at this;omega
  have e1:(nx.take (i+1)).foldl ba met=ba ((nx.take i).foldl ba met) p:=by rw [g9 hp,List.foldl_append];rfl
  rw [e1]
  generalize (nx.take i).foldl ba met=mt at B ml
  have j5:=B.j5
  have j6:=B.j6
  have R:=Bs (old:=yH true) (neg:=true) (k:=cJ p) B.K
  rw [BE] at R
  have B1:=B.setK
  refine ⟨eW fs bits ws f3 o m5 m6 m7 z8 z9 z10 (some (bE p)),?_⟩
  by_cases hm:p∈mt
  ·rw [wc hm] at R
   refine ⟨eW fs bits ws f3 o m5 m6 m7 z8 z9 z10 (some (bE p)),_,rfl,yD (yc (zp (zf rfl) (zf rfl) R)),⟨_,rfl⟩,?_,by rw [yo (by omega)];exact hr⟩
   unfold ba
   rw [zF hm]
   exact B1
  ·rw [jU hm] at R
   have Pt:=Bt (fo:=zc 6) (fi:=zc 11) (fv:=mC (.bl true)) (e:=eW fs bits ws f3 o m5 m6 m7 z8 z9 z10 (some (bE p))) (k:=cJ p) rfl (zf rfl) (zf rfl) B1.K (by simp;omega)
   have ek:cA (mt.map cJ) (cJ p)=(mt++[p]).map cJ:=by
    unfold cA
    rw [BE,zP (by simpa using hm),ju]
    rfl
   rw [ek] at Pt
   have hM:((s.set m6 (.dit (mt.map cJ) (cx (mt.map cJ)))).set m6 (.dit ((mt++[p]).map cJ) (cx ((mt++[p]).map cJ))))[m5]?=some (.lst (mt.map bE)):=by rw [yo (by omega)];exact B1.M
   have A:=wz (y:=bE p) hM (by simp;omega)
   refine ⟨eW fs bits ws f3 o m5 m6 m7 z8 z9 z10 (some (bE p)),_,rfl,yR (yc (zp (zf rfl) (zf rfl) R)) (zB Pt (jW (jL (zf rfl) hM (zf rfl) A))),⟨_,rfl⟩,?_,by rw [yo (by omega),yo (by omega),yo (by omega)];exact hr⟩
   unfold ba
   rw [zP hm]
   exact B1.add p) (nx.map bE).length 0 (lim+1) _ s (by omega) (by simp [lim];omega) ⟨⟨z11,rfl⟩,B,hr⟩
 subst he
 rw [yI,List.take_length] at B'
 exact ⟨s',y,F,B'⟩
end
def UE {n:Nat}{i:Int}{s:aa}:a6 zv (.ref n) (.int i) s=zv (.ref n) (.int i) s:=rfl
def UG {n:Nat}{z:Str}{s:aa}:a6 zv (.ref n) (.str z) s=zv (.ref n) (.str z) s:=rfl
noncomputable abbrev tW:Ak:=(mB (ze oLt (zu yS (zd (zc 7) zo)) (zu yS (zd (zc 5) zo))))
noncomputable abbrev bW:Aj:=(zw (zH 8 (ze (a6 zv) (zc 5) (zu yS (zd (zc 7) zo))))
  (zw (zH 9 (ze (a6 zv) (zc 3) (ze (a6 zv) (zc 8) (Ar 0))))
  (zw (zH 10 (iG "best_form" qR (zc 4) (zd (zc 9) (zd (ze (a6 zv) (zc 8) (Ar 1)) zo))))
  (zw (yK (yF yJ (zc 7) (zc 10)))
  (yV (yG (zu qS (zd (zc 9) (zd (ze (a6 zv) (zc 10) (Ar 3)) zo)))) (gN 11)
  cB)))))
theorem bw {Fs:List FD}(P:bC Fs) {ks:Ag}{f3 o q b m5 m6 m7:Nat}{st:aa}{fs:An}{bits:Int}{ws:PV}:∀(n fuel i:Nat) (met:List Pr) (s:aa) (z8 z9 z10 z11:Ao),12800-i<=n->n<fuel->BS Fs ks f3 o q b m5 m6 m7 st s met ((met.take i).map (aV Fs ks))->i<=met.length->met.Nodup->(∀x∈met,Gd Fs x) ->
  ∃s' fin y8 y9 cM cN,bZ tW bW fuel (eW fs bits ws f3 o m5 m6 m7 z8 z9 z10 z11) s=.ok (.nx (eW fs bits ws f3 o m5 m6 m7 y8 y9 cM cN)) s'/\fG Fs ks i met fin/\BS Fs ks f3 o q b m5 m6 m7 st s' fin (fin.map (aV Fs ks)):=by
 intro n
 induction n with
 | zero =>
  intro fuel i met s z8 z9 z10 z11 hn hf B hi nd g
  have ml:=rA P nd g
  have e:i=met.length:=by omega
  subst e
  rw [List.take_length] at B
  obtain ⟨f,rfl⟩:∃f,fuel=f+1:=⟨fuel-1,by omega⟩
  have L1:=w6 B.G
  have L2:=w6 B.M
  have T:tW (eW fs bits ws f3 o m5 m6 m7 z8 z9 z10 z11) s=.ok false s:=yc (zp (zE (zL (zf rfl)) L1) (zE (zL (zf rfl)) L2) (kF false (by simp) _))
  exact ⟨s,met,z8,z9,z10,z11,by rw [qk,T,zG,zP (by simp)],.done met,B⟩
 | succ n ih =>
  intro fuel i met s z8 z9 z10 z11 hn hf B hi nd g
  have ml:=rA P nd g
  obtain ⟨f,rfl⟩:∃f,fuel=f+1:=⟨fuel-1,by omega⟩
  have L1:=w6 B.G
  have L2:=w6 B.M
  rw [yI,List.length_take] at L1
  rw [yI] at L2
  by_cases e:i=met.length
  ·subst e
   rw [List.take_length] at B
   have T:tW (eW fs bits ws f3 o m5 m6 m7 z8 z9 z10 z11) s=.ok false s:=yc (zp (zE (zL (zf rfl)) L1) (zE (zL (zf rfl)) L2) (kF false (by simp) _))
   exact ⟨s,met,z8,z9,z10,z11,by rw [qk,T,zG,zP (by simp)],.done met,B⟩
  ·have bj:i<met.length:=by omega
   rw [Nat.min_eq_left hi] at L1
   have hp:met[i]?=some (met[i]'bj):=yx bj
   generalize met[i]'bj=p at hp
   have T:tW (eW fs bits ws f3 o m5 m6 m7 z8 z9 z10 z11) s=.ok true s:=yc (zp (zE (zL (zf rfl)) L1) (zE (zL (zf rfl)) L2) (kF true (by simp;omega) _))
   obtain ⟨F,hF,uw,UH,hb1⟩:=g p (wb hp)
   have rB:Fs.find? (λG=>decide (G.nz=p.1))=some F:=by rw [<-uw];exact oZ P.nd hF
   have UI:aV Fs ks p=ck Fs ks F p.2:=by unfold aV;rw [rB]
   have UJ:bJ Fs ks p=cV Fs ks F p.2:=by unfold bJ;rw [rB]
   have I8:a6 zv (.ref m5) (.int (i:Int)) s=.ok (bE p) s:=by
    rw [UE,mL,yr B.M,a4 (x:=bE p) (by rw [yM,hp];rfl)]
    rfl
   obtain ⟨j,hj⟩:=List.getElem?_of_mem hF
   have lk:((Fs.map (·.nz)).zip (Fs.map FD.v)).lookup p.1=some F.v:=Bo (j:=j) P.nd (by rw [yM,hj,<-uw];rfl) (by rw [yM,hj];rfl)
   have I9:a6 zv (.ref f3) (.str p.1) s=.ok F.v s:=UG.trans (HL B.Fd lk)
   obtain ⟨s1,ux,H1,br,_⟩:=Up P B.H hF p.2 UH
   have B1:=B.bar br H1
   have A:=wz (y:=ck Fs ks F p.2) B1.G (by simp;omega)
   have B2:=B1.setG (ck Fs ks F p.2)
   obtain ⟨r,s3,BG,hr,rl,o3⟩:=Uv P hF (d_ Fs ks F p.2).2 (s1.set m7 (.lst ((met.take i).map (aV Fs ks)++[ck Fs ks F p.2])))
   have B3:=B2.old o3
   have WG:(cV Fs ks F p.2).length<=100:=by
    have h1:(cV Fs ks F p.2).length<=((a8 F.ls).map (·.1)).length:=by unfold cV;rw [List.length_zip];omega
    have h2:(a8 F.ls).length<=F.ls.length:=ja (List.length_filterMap_le _ _) (by simp)
    have h3:=(P.fn F hF).nl
    rw [yI] at h1
    omega
   obtain ⟨s4,y,F4,B4⟩:=UD (fs:=fs) (bits:=bits) (ws:=ws) (z8:=some (bE p)) (z9:=some F.v) (z10:=some (ck Fs ks F p.2)) (z11:=z11) (nx:=cV Fs ks F p.2) B3 hr (rl _ _ B2.G) (by omega)
   have FO:(yV (yG (zu qS (zd (zc 9) (zd (ze (a6 zv) (zc 10) (Ar 3)) zo)))) (gN 11) cB) (eW fs bits ws f3 o m5 m6 m7 (some (bE p)) (some F.v) (some (ck Fs ks F p.2)) z11) (s1.set m7 (.lst ((met.take i).map (aV Fs ks)++[ck Fs ks F p.2])))=.ok (.nx (eW fs bits ws f3 o m5 m6 m7 (some (bE p)) (some F.v) (some (ck Fs ks F p.2)) y)) s4:=by
    rw [wN,jz,zE (zT (zf rfl) (zp (zf rfl) rfl TZ)) BG,zG,oy,yr hr,zG]
    exact F4
   have W:bW (eW fs bits ws f3 o m5 m6 m7 z8 z9 z10 z11) s=.ok (.nx (eW fs bits ws f3 o m5 m6 m7 (some (bE p)) (some F.v) (some (ck Fs ks F p.2)) y)) s4 :=
    zB (zN (zp (zf rfl) (zE (zL (zf rfl)) L1) I8)) (zB (zN (zp (zf rfl) (zp (zf rfl) rfl oW) I9)) (zB (zN (By (zf rfl) B.H.at_ (by decide +kernel) (show qR "Holding" = some m_Holding_best_form from zF rfl) (zT (zf rfl) (zp (zf rfl) rfl Bv)) ux)) (zB (jW (jL (zf rfl) B1.G (zf rfl) A)) FO)))
   have B4:BS Fs ks f3 o q b m5 m6 m7 st s4 ((cV Fs ks F p.2).foldl ba met) ((met.take i).map (aV Fs ks)++[ck Fs ks F p.2]):=B4
   rw [<-UJ] at B4
   obtain ⟨t,et⟩:=HX (l:=bJ Fs ks p) (met:=met)
   have kI:=BA (l:=bJ Fs ks p) nd
   have g':∀x∈(bJ Fs ks p).foldl ba met,Gd Fs x:=λx hx=>(BB hx).elim (g x) (BD P x)
   have tk:((bJ Fs ks p).foldl ba met).take (i+1)=met.take i++[p]:=by
    rw [et,List.take_append_of_le_length (by omega)]
    exact g9 hp
   have B5:BS Fs ks f3 o q b m5 m6 m7 st s4 ((bJ Fs ks p).foldl ba met) ((((bJ Fs ks p).foldl ba met).take (i+1)).map (aV Fs ks)):=by
    rw [tk,ju,List.map_singleton,UI]
    exact B4
   obtain ⟨s',fin,y8,y9,cM,cN,E',R',B'⟩:=ih f (i+1) _ s4 (some (bE p)) (some F.v) (some (ck Fs ks F p.2)) y (by omega) (by omega) B5 (by rw [et,h_];omega) kI g'
   exact ⟨s',fin,y8,y9,cM,cN,by rw [qk,T,zG,zF rfl,W,zG];exact E',.step i met fin p hp R',B'⟩
theorem UK {F0:FD}{Fr:List FD}(P:bC (F0::Fr)) (bits:Int) (h0:0<=bits) (h1:bits<2 ^ F0.ps.length) (ws:Ag) (hw:ws.length<=1000) (st:aa):∃ks fin s1,oM [.tup ((F0::Fr).map FD.v),.int bits,.tup (ws.map aO)] st=.ok (.tup (fin.map (aV (F0::Fr) ks))) s1/\fG (F0::Fr) ks 0 [(F0.nz,bits)] fin/\(∀k,k∈ks↔k∈ws)/\Old st s1:=by
 obtain ⟨s1,E1,hd,o1⟩:=Ua P st
 obtain ⟨ks,q,b,s2,E2,H2,hm,lq,qb,o2⟩:=Ub P ws hw s1
 let s3:=s2++[SO.lst [bE (F0.nz,bits)]]
 have H9:s3[s2.length]?=some (.lst [bE (F0.nz,bits)]):=yj _ _
 obtain ⟨s4,E4,hK,o4⟩:=TX (k:=cJ (F0.nz,bits)) H9
 let s5:=s4++[SO.lst []]
 have bl:=yk H2.bs
 have l3:s3.length=s2.length+1:=by simp [s3]
 have l4:s3.length<s4.length:=hK.lt
 have l1:st.length<s1.length:=yk hd
 have BH:Old s2 s5:=(zU _ _).trans (o4.trans (zU _ _))
 have B0:BS (F0::Fr) ks st.length s1.length q b s2.length s3.length s4.length st s5 [(F0.nz,bits)] (([(F0.nz,bits)].take 0).map (aV (F0::Fr) ks)) :=
  ⟨BH _ _ (o2 _ _ hd),H2.old BH,zU _ _ _ _ (o4 _ _ H9),hK.old (zU _ _),yj _ _,λm so e=>BH _ _ (o2 _ _ (o1 _ _ e)),ym _,l1,lq,qb,bl,by omega,l4⟩
 obtain ⟨s',fin,y8,y9,cM,cN,E,R,B⟩:=bw P (fs:=(F0::Fr).map FD.v) (bits:=bits) (ws:=.tup (ws.map aO)) 12800 lim 0 [(F0.nz,bits)] s5 none none none none (by omega) (by simp [lim]) B0 (by simp) (by simp) (λx hx=>by rw [jN.mp hx];exact ⟨F0,y0 ..,rfl,h0,h1⟩)
 refine ⟨ks,fin,s',yg rfl (zB (zN (zE (zL (zf rfl)) E1)) (zB (zN (zE (zT (zf rfl) (zf rfl)) E2)) (zB (zN (jh (zL (zX (zT (zp (zp (zf rfl) rfl oW) rfl oW) (zf rfl)) (by simp))) (by simp))) (zB (zN (zE (zL (zf rfl)) E4)) (zB (zN (jh jt (by simp))) (zB E (yn (zE (zL (zf rfl)) (by rw [wm,yr B.G]))))))))),R,hm,B.F⟩
def UL {g:PV->zm->Option zm}{body:Aj}{x:PV}{r:An}{e e1:zm}{s s1:aa}{v:PV}(h:g x e=some e1) (hb:body e1 s=.ok (.rt v) s1):forL g body (x::r) e s=.ok (.rt v) s1:=by
 unfold forL
 rw [h]
 simp only
 rw [hb,zG]
def UM {g:PV->zm->Option zm}{body:Aj}{x:PV}{r:An}{e e1 e2:zm}{s s1:aa}{X:Res Fl}(h:g x e=some e1) (hb:body e1 s=.ok (.nx e2) s1) (hr:forL g body r e2 s1=X):forL g body (x::r) e s=X:=by
 unfold forL
 rw [h]
 simp only
 rw [hb,zG]
 exact hr
noncomputable abbrev bY:Aj:=(zY (mB (ze wF (ze zv (zc 2) (Ar 0)) (zc 1)))
  (yb (zc 2))
  yd)
theorem H_ {x0:Ao}{s:aa}:∀(Fs:List FD) {F:FD}{z2:Ao},(Fs.map (·.nz)).Nodup->F∈Fs->forL (gN 2) bY (Fs.map FD.v) [x0,some (.str F.nz),z2] s=.ok (.rt F.v) s
 | [],_,_,_,h=>nomatch h
 | G::Fs,F,z2,nd,h=>by
  rw [yu,jH] at nd
  rw [yu]
  by_cases e:G.nz=F.nz
  ·have GF:G=F:=by
    rcases yC.mp h with q|q
    ·exact q.symm
    ·exact absurd (jv.mpr ⟨F,q,e.symm⟩) nd.1
   subst GF
   exact UL (e1:=[x0,some (.str G.nz),some G.v]) rfl (yR (yc (zp (zp (zf rfl) rfl yN) (zf rfl) (uT _ _ true (by simp) _))) (yn (zf rfl)))
  ·have hm:F∈Fs:=(yC.mp h).resolve_left λq=>e (by rw [q])
   exact UM (e1:=[x0,some (.str F.nz),some G.v]) rfl (yD (yc (zp (zp (zf rfl) rfl yN) (zf rfl) (uT _ _ false (by simpa using e) _)))) (H_ Fs nd.2 hm)
def BI {Fs:List FD}(P:bC Fs) {F:FD}(h:F∈Fs) (s:aa):lH [.tup (Fs.map FD.v),.str F.nz] s=.ok F.v s:=by
 refine yg rfl (jV ?_)
 rw [wN,jz,zf rfl,zG]
 show (Res.ok (Sq.im (Fs.map FD.v)) s).bind _=_
 rw [zG]
 exact H_ Fs P.nd h
noncomputable abbrev bA:Aj:=(zw (zY (mB (ze ye (ze zv (zc 2) (Ar 0)) (As "call")))
  (yK (yF yJ (zc 1) (zC (zd (ze zv (zc 2) (Ar 2)) (zd (ze zv (zc 2) (Ar 3)) zo)))))
  yd)
  (zY (mB (ze ye (ze zv (zc 2) (Ar 0)) (As "go")))
  (yK (yF yJ (zc 1) (zC (zd (ze zv (zc 2) (Ar 1)) (zd (ze zv (zc 2) (Ar 2)) zo)))))
  yd))
theorem UN:("call" : Str) ≠ "go" := by decide +kernel
theorem UO {hs:List (Str×Nat)}{l:PV}(h:(∃k z,cL hs k z l)\/∃k,dW hs k l) {x0:Ao}{a:Nat}{s:aa}{ys:An}(ha:s[a]?=some (.lst ys)) (hl:ys.length<=1000):∃s1,bA [x0,At a,some l] s=.ok (.nx [x0,At a,some l]) s1/\s1=s.set a (.lst (ys++((aimL (li l)).toList.map λp=>eh (some p)))):=by
 have same:s=s.set a (.lst (ys++((none:Option (Str×List PV)).toList.map λp=>eh (some p)))):=by
  obtain ⟨h1,h2⟩:=yt.mp ha
  simp only [Option.toList_none,List.map_nil,List.append_nil]
  rw [<-h2,List.set_getElem_self]
 have no:∀{w:Str} {r:An},w ≠ "call" -> w ≠ "go" -> bA [x0,At a,some (.tup (.str w::r))] s=.ok (.nx [x0,At a,some (.tup (.str w::r))]) s:=λh1 h2=>zB (yD (q0 rfl (dG h1 _))) (yD (q0 rfl (dG h2 _)))
 rcases h with ⟨k,z,h⟩|⟨k,h⟩
 ·cases h with
  | let_ o n as=>rw [lL];exact ⟨s,no n1 n2,same⟩
  | call f as =>
   rw [lM]
   have A:=wz (y:=.tup [.str f,.tup as]) ha (by omega)
   exact ⟨_,zB (yR (q0 rfl (fY _)) (jW (jL (zf rfl) ha (zX (zT (zp (zf rfl) rfl wT) (zp (zf rfl) rfl iN)) (by simp)) A))) (yD (q0 rfl (dG UN _))),rfl⟩
 ·cases h with
  | give x hx=>rw [show li (.tup [.str "give", x])=.oth by cases hx<;>rfl];exact ⟨s,no n3 n4,same⟩
  | fail w=>exact ⟨s,no n5 n6,same⟩
  | if_ x v1 v2 hx=>rw [show li (.tup [.str "if", x,v1,v2])=.oth by cases hx<;>rfl];exact ⟨s,no n8 n9,same⟩
  | go f as =>
   rw [lN]
   have A:=wz (y:=.tup [.str f,.tup as]) ha (by omega)
   exact ⟨_,zB (yD (q0 rfl (dG n7 _))) (yR (q0 rfl (fY _)) (jW (jL (zf rfl) ha (zX (zT (zp (zf rfl) rfl js) (zp (zf rfl) rfl wT)) (by simp)) A))),rfl⟩
theorem Ia {v:PV}{ls:An}{dd:Nat}(B:Bk v ls dd):0<ls.length:=by
 cases B<;>simp<;>omega
theorem Ib {Fs:List FD}(P:bC Fs) {F:FD}(hF:F∈Fs) (st:aa):∃a s1,oN [F.v] st=.ok (.ref a) s1/\s1[a]?=some (.lst (dm F.ls))/\(∀(m:Nat) so,st[m]?=some so->m<a)/\Old st s1:=by
 have ok:=P.fn F hF
 obtain ⟨dd,oS,B⟩:=ok.bk
 have nl:=ok.nl
 have al:=rq ok.ln
 let s0:=st++[SO.lst []]
 obtain ⟨r,s1,E1,hr,o1⟩:=Bm B (by omega) (by omega) s0
 have Ic:s1[st.length]?=some (.lst []):=o1 _ _ (yj _ _)
 have lp:=Ia B
 have ra:r≠st.length:=λe=>by
  rw [e,Ic] at hr
  have:([]:An)=F.ls:=by injection hr with h;injection h
  rw [<-this] at lp
  simp at lp
 obtain ⟨e',s',FF,⟨z2,he⟩,g1,g2,g3⟩:=oO (g:=gN 2) (body:=bA) (n:=r) F.ls (λi e s=>(∃z2,e=[some F.v,At st.length,z2])/\s[st.length]?=some (.lst (((F.ls.take i).map li).filterMap aimL |>.map λp=>eh (some p)))/\s[r]?=some (.lst F.ls)/\∀(m:Nat) so,m≠st.length->s1[m]?=some so->s[m]?=some so) (λi e s h=>h.2.2.1) (λi x e s hx ⟨⟨z2,he⟩,g1,g2,g3⟩=>by
  subst he
  have hi:i<F.ls.length:=(yt.mp hx).1
  obtain ⟨s2,E2,es⟩:=UO (x0:=some F.v) (al x (wb hx)) g1 (by
   rw [yI]
   have h:=List.length_filterMap_le aimL ((F.ls.take i).map li)
   rw [yI,List.length_take] at h
   omega)
  refine ⟨[some F.v,At st.length,some x],_,s2,rfl,E2,⟨_,rfl⟩,?_,?_,λm so hm e=>?_⟩
  ·rw [es,je (yk g1),g9 hx,ju,List.filterMap_append,ju]
   congr 3
  ·rw [es,yo (yT ra)];exact g2
  ·rw [es,yo (yT hm)];exact g3 m so hm e) F.ls.length 0 (lim+1) [some F.v,At st.length,none] s1 (by omega) (by simp [lim];omega) ⟨⟨none,rfl⟩,Ic,hr,λ_ _ _ e=>e⟩
 subst he
 rw [List.take_length] at g1
 have FO:(yV (yG (zu kD (zd (ze zv (zc 0) (Ar 2)) zo))) (gN 2) bA) [some F.v,At st.length,none] s0=.ok (.nx [some F.v,At st.length,z2]) s':=by
  rw [wN,jz,zE (zL (zp (zf rfl) rfl wT)) E1,zG,oy,yr hr,zG]
  exact FF
 exact ⟨st.length,s',yg rfl (zB (zN (jh jt (by simp))) (zB FO (yn (zf rfl)))),g1,λm so e=>yk e,λm so e=>g3 m so (by have:=yk e;omega) (o1 _ _ (zU _ _ _ _ e))⟩
def UP {nk:Ad}{a:PV}(h:cv nk a) {L T:Ad}(hT:∀z∈T,z∉nk):aK (L++T) a=aK L a:=by
 cases h with
 | of z hz =>
  rw [Bp,Bp]
  congr 1
  refine propext ⟨λh=>?_,λh=>gh _ h⟩
  rcases wu.mp h with q|q
  ·exact q
  ·exact absurd hz (hT z q)
 | is v=>rw [Bq,Bq]
def Ie {Fs:List FD}{ks:Ag}{nk:Ad}{L T:Ad}{f:Str}{as:An}(ha:∀a∈as,cv nk a) (hT:∀z∈T,z∉nk):gl Fs ks (L++T) f as=gl Fs ks L f as:=by
 have e:as.map (aK (L++T))=as.map (aK L):=List.map_congr_left λa h=>UP (ha a h) hT
 unfold gl bI
 rw [e]
def Ig {Fs:List FD}{ks:Ag}{nz:Str}{hs:List (Str×Nat)}{nk:Ad}{ls:An}{zs:Ad}(h:cb hs nk ls zs):∀(L:Ad),∀z∈(wk Fs ks nz L (ls.map li)).1,z∈zs:=by
 induction h with
 | nil=>intro L z h;simp [wk] at h
 | stp nk z0 v ls zs hv _ ih =>
  intro L z h
  cases hv with
  | let_ o n as =>
   rw [yu,lL] at h
   unfold wk at h
   split at h
   ·rcases yC.mp h with q|q
    ·rw [q];exact y0 ..
    ·exact jm _ (ih _ z q)
   ·exact jm _ (ih _ z h)
  | call f as =>
   rw [yu,lM] at h
   unfold wk at h
   rcases yC.mp h with q|q
   ·rw [q];exact y0 ..
   ·exact jm _ (ih _ z q)
 | fin nk e ls zs he _ ih =>
  intro L z h
  cases he with
  | give x hx=>rw [yu,show li (.tup [.str "give", x])=.oth by cases hx<;>rfl] at h;exact ih L z h
  | fail w=>exact ih L z h
  | if_ x v1 v2 hx=>rw [yu,show li (.tup [.str "if", x,v1,v2])=.oth by cases hx<;>rfl] at h;exact ih L z h
  | go f as =>
   rw [yu,lN] at h
   unfold wk at h
   exact ih L z h
def UQ {Fs:List FD}{ks:Ag}{nz:Str}{hs:List (Str×Nat)}{nk:Ad}{ls:An}{zs:Ad}(h:cb hs nk ls zs):∀(L:Ad),(nk++zs).Nodup->(wk Fs ks nz L (ls.map li)).2=(a8 ls).map λp=>gl Fs ks (L++(wk Fs ks nz L (ls.map li)).1) p.1 p.2:=by
 induction h with
 | nil=>intro L _;rfl
 | stp nk z0 v ls zs hv cI ih =>
  intro L nd
  have kI:(nk++[z0]++zs).Nodup:=by simpa using nd
  have BJ:∀z∈z0::zs,z∉nk:=λz hz hm=>(List.nodup_append.mp nd).2.2 z hm z hz rfl
  cases hv with
  | let_ o n as =>
   show (wk Fs ks nz L (li _::ls.map li)).2=(List.filterMap aimL (li _::ls.map li)).map λp=>gl Fs ks (L++(wk Fs ks nz L (li _::ls.map li)).1) p.1 p.2
   rw [lL,show List.filterMap aimL (Li.let_ z0 as::ls.map li)=a8 ls from rfl]
   unfold wk
   split
   ·have:=ih (L++[z0]) kI
    simp only
    rw [this]
    simp
   ·exact ih L kI
  | call f as hf bT =>
   show (wk Fs ks nz L (li _::ls.map li)).2=(List.filterMap aimL (li _::ls.map li)).map λp=>gl Fs ks (L++(wk Fs ks nz L (li _::ls.map li)).1) p.1 p.2
   rw [lM,show List.filterMap aimL (Li.call z0 f as::ls.map li)=(f,as)::a8 ls from rfl]
   unfold wk
   have:=ih (L++[z0]) kI
   simp only [yu]
   rw [Ie bT (λz hz=>BJ z (by
    rcases yC.mp hz with q|q
    ·rw [q];exact y0 ..
    ·exact jm _ (Ig cI _ z q))),this]
   simp
 | fin nk e ls zs he cI ih =>
  intro L nd
  have BJ:∀z∈zs,z∉nk:=λz hz hm=>(List.nodup_append.mp nd).2.2 z hm z hz rfl
  have no:li e=.oth->(wk Fs ks nz L ((e::ls).map li)).2=(a8 (e::ls)).map λp=>gl Fs ks (L++(wk Fs ks nz L ((e::ls).map li)).1) p.1 p.2:=λrn=>by
   show (wk Fs ks nz L (li _::ls.map li)).2=(List.filterMap aimL (li _::ls.map li)).map λp=>gl Fs ks (L++(wk Fs ks nz L (li _::ls.map li)).1) p.1 p.2
   rw [rn]
   exact ih L nd
  cases he with
  | give x hx=>exact no (by cases hx<;>rfl)
  | fail w=>exact no rfl
  | if_ x v1 v2 hx=>exact no (by cases hx<;>rfl)
  | go f as hf bT =>
   show (wk Fs ks nz L (li _::ls.map li)).2=(List.filterMap aimL (li _::ls.map li)).map λp=>gl Fs ks (L++(wk Fs ks nz L (li _::ls.map li)).1) p.1 p.2
   rw [lN,show List.filterMap aimL (Li.go f as::ls.map li)=(f,as)::a8 ls from rfl]
   unfold wk
   simp only [yu]
   rw [Ie bT (λz hz=>BJ z (Ig cI _ z hz)),ih L nd]
def Ih {Fs:List FD}{ks ws:Ag}(h:∀k,k∈ks↔k∈ws) {nz:Str}:∀(l:List Li) (L:Ad),wk Fs ks nz L l=wk Fs ws nz L l:=by
 have rh:∀k,a5 k ks=a5 k ws:=λk=>by rw [Bool.eq_iff_iff,tF,tF];exact h k
 have ge:∀L f as,gl Fs ks L f as=gl Fs ws L f as:=λL f as=>by
  unfold gl bI
  simp only [rh]
 intro l
 induction l with
 | nil=>intro L;rfl
 | cons x l ih =>
  intro L
  cases x with
  | let_ z as=>unfold wk;rw [rh,ih,ih]
  | call z f as=>unfold wk;rw [ge,ih]
  | go f as=>unfold wk;rw [ge,ih]
  | oth=>unfold wk;exact ih L
def Ii {Fs:List FD}{ks ws:Ag}(h:∀k,k∈ks↔k∈ws):aV Fs ks=aV Fs ws/\bJ Fs ks=bJ Fs ws:=by
 constructor
 ·funext p
  unfold aV ck d_
  simp only [Ih h]
 ·funext p
  unfold bJ cV d_
  simp only [Ih h]
def UR {Fs:List FD}{ks ws:Ag}(h:∀k,k∈ks↔k∈ws) {i:Nat}{met fin:List Pr}(R:fG Fs ks i met fin):fG Fs ws i met fin:=by
 induction R with
 | done met=>exact .done met
 | step i met fin p hp _ ih=>rw [(Ii h).2] at ih;exact .step i met fin p hp ih
def uz {Fs:List FD}{ks:Ag}{i:Nat}{met fin:List Pr}(R:fG Fs ks i met fin):(i=met.length/\fin=met)\/∃p,met[i]?=some p/\fG Fs ks (i+1) ((bJ Fs ks p).foldl ba met) fin:=by
 cases R with
 | done=>exact .inl ⟨rfl,rfl⟩
 | step _ _ _ p hp R=>exact .inr ⟨p,hp,R⟩
def US {Fs:List FD}{ks:Ag}{i:Nat}{met fin uX:List Pr}(R:fG Fs ks i met fin):fG Fs ks i met uX->fin=uX:=by
 induction R with
 | done met =>
  intro R'
  rcases uz R' with ⟨_,e⟩|⟨p,hp,_⟩
  ·exact e.symm
  ·simp at hp
 | step i met fin p hp _ ih =>
  intro R'
  rcases uz R' with ⟨e,_⟩|⟨p',hp',R'⟩
  ·rw [e] at hp;simp at hp
  ·rw [hp] at hp';cases hp';exact ih R'
def UT (a b:Key):a_ (kP a) (kP b)=decide (a=b):=by
 cases a with
 | inl i=>cases b with
  | inl j=>simp only [kP,a_,Sum.inl.injEq];rw [Bool.eq_iff_iff];simp
  | inr z=>simp [kP,a_]
 | inr y=>cases b with
  | inl j=>simp [kP,a_]
  | inr z=>simp only [kP,a_,Sum.inr.injEq];rw [Bool.eq_iff_iff];simp
theorem Ij:∀(w k:List Key),cW (w.map kP) (k.map kP)=decide (w=k)
 | [],[]=>rfl
 | [],_::_=>rfl
 | _::_,[]=>rfl
 | a::w,b::k=>by
  rw [yu,yu,show cW (kP a::w.map kP) (kP b::k.map kP)=(a_ (kP a) (kP b)&&cW (w.map kP) (k.map kP)) by rw [cW],UT,Ij w k,Bool.eq_iff_iff]
  simp
theorem Ik:∀k:List Key,bo (k.map kP)=true
 | []=>rfl
 | a::k=>by cases a<;>simp [kP,Ik k]
theorem Il:∀k:List Key,cg (k.map kP)=0
 | []=>rfl
 | a::k=>by cases a<;>simp [kP,cg,dep,Il k]
def BK (k:List Key):Mi.plain (aO k)=true:=by simp [aO,Ik]
def UU (k:List Key):dep (aO k)<=1:=by simp [aO,dep,Il]
theorem BL:∀ws:Ag,bo (ws.map aO)=true
 | []=>rfl
 | w::ws=>by rw [yu];simp only [bo,BK,BL ws,Bool.and_self]
theorem BM:∀ws:Ag,cg (ws.map aO)<=1
 | []=>by simp [cg]
 | w::ws=>by
  have h1:=UU w
  have h2:=BM ws
  rw [yu]
  simp only [cg]
  omega
def Im (k:List Key) (ws:Ag):(ws.map aO).any (λy=>a_ y (aO k))=a5 k ws:=by
 rw [List.any_map]
 unfold a5
 congr 1
 funext w
 show a_ (aO w) (aO k)=_
 rw [show a_ (aO w) (aO k)=cW (w.map kP) (k.map kP) by rw [a_],Ij]
theorem Io (n:Bool) (k:List Key) (ws:Ag) (s:aa):yH n (aO k) (.tup (ws.map aO)) s=.ok (.bl (n.xor (a5 k ws))) s:=by
 rw [ED,zF ⟨BK k,BL ws,ja (BM ws) (by omega)⟩,Im]
def UW {fa fb:Ai}{e:zm}{st s1:aa}(h:fa e st=.ok (.bl true) s1):mD fa fb e st=.ok (.bl true) s1:=by
 rw [Ea,h,zG,qj,zG,zF rfl]
def UX {fa fb:Ai}{e:zm}{st s1:aa}{X:Res PV}(h:fa e st=.ok (.bl false) s1) (h':fb e s1=X):mD fa fb e st=X:=by
 rw [Ea,h,zG,qj,zG,zP (by simp),h']
theorem Ip:∀bs:List Bool,cu (bs.map PV.bl)=some bs
 | []=>rfl
 | b::r=>by rw [yu];unfold cu;rw [Ip r];rfl
def UY {s:aa}{n:Nat}{bs:List Bool}(h:s[n]?=some (.lst (bs.map PV.bl))):oH [.ref n] s=.ok (.bl (bs.any id)) s:=by
 unfold oH
 rw [show gP [.ref n] s=.ok n s by show yi s n _=_;rw [yr h],zG,yr h,Ip]
noncomputable abbrev eL (pv:PV) (nz:Str) (bits:Int) (ws:Ag) (fv:PV) (l5 l6:Nat) (z7 z8 z9 z10 z11 z12 z13 z14:Ao):zm:=[some pv,some (.str nz),some (.int bits),some (.tup (ws.map aO)),some fv,At l5,At l6,z7,z8,z9,z10,z11,z12,z13,z14]
noncomputable abbrev kL:Aj:=(zY (mB (zc 8))
  (zw (yK (yF yJ (zc 6) (ze zv (zc 7) (Ar 1))))
  (yK (yF yJ (zc 5) (ze zv (zc 7) (Ar 1)))))
  yd)
noncomputable abbrev rD:Aj:=(zw (zH 8 (ze ye (ze zv (zc 7) (Ar 0)) (As "call")))
  (zw (zY (mB (ze ye (ze zv (zc 7) (Ar 0)) (As "let")))
  (zH 8 (mD (ze (yH false) (zC (zd (zc 1) (zd (ze zv (zc 7) (Ar 1)) zo))) (zc 3)) (zu oH (zd (jd (yG (ze zv (zc 7) (Ar 3))) (zu kE (zd (zc 0) (zd (zc 6) zo)))) zo))))
  yd)
  kL))
theorem Iq:("call" : Str) ≠ "let" := by decide +kernel
section
variable {pv fv:PV}{nz:Str}{bits:Int}{ws:Ag}{l5 l6:Nat}{z8 z9 z10 z11 z12 z13 z14:Ao}{s:aa}{L nm:Ad}
def LW (l5 l6:Nat) (s s':aa) (L nm:Ad):Prop:=s'[l5]?=some (.lst (L.map PV.str))/\s'[l6]?=some (.lst (nm.map PV.str))/\∀(m:Nat) so,m≠l5->m≠l6->s[m]?=some so->s'[m]?=some so
theorem Ir {l:PV}{z:Str}(hz:∀s,zv l (.int 1) s=.ok (.str z) s) (h5:s[l5]?=some (.lst (L.map PV.str))) (h6:s[l6]?=some (.lst (nm.map PV.str))) (ne:l5≠l6) (b1:L.length<=1000) (b2:nm.length<=1000) :
  ∃s',kL (eL pv nz bits ws fv l5 l6 (some l) (some (.bl true)) z9 z10 z11 z12 z13 z14) s=.ok (.nx (eL pv nz bits ws fv l5 l6 (some l) (some (.bl true)) z9 z10 z11 z12 z13 z14)) s'/\LW l5 l6 s s' (L++[z]) (nm++[z]):=by
 have A1:=wz (y:=.str z) h6 (by simp;omega)
 have BN:(s.set l6 (.lst (nm.map PV.str++[.str z])))[l5]?=some (.lst (L.map PV.str)):=by rw [yo (yT ne)];exact h5
 have A2:=wz (y:=.str z) BN (by simp;omega)
 refine ⟨_,yR (yc (zf rfl)) (zB (jW (jL (zf rfl) h6 (zp (zf rfl) rfl (hz _)) A1)) (jW (jL (zf rfl) BN (zp (zf rfl) rfl (hz _)) A2))),?_,?_,λm so q1 q2 e=>?_⟩
 ·rw [je (yk BN),ju];rfl
 ·rw [yo ne,je (yk h6),ju];rfl
 ·rw [yo (yT q1),yo (yT q2)];exact e
def Iu {l:PV}:kL (eL pv nz bits ws fv l5 l6 (some l) (some (.bl false)) z9 z10 z11 z12 z13 z14) s=.ok (.nx (eL pv nz bits ws fv l5 l6 (some l) (some (.bl false)) z9 z10 z11 z12 z13 z14)) s:=yD (yc (zf rfl))
noncomputable def grow (ws:Ag) (nz:Str) (L:Ad):Li->Ad
 | .let_ z as=>if (as.any (aK L)||a5 (pk nz z) ws)=true then [z] else []
 | .call z _ _=>[z]
 | _=>[]
theorem UZ {hs:List (Str×Nat)}{l:PV}(h:(∃k z,cL hs k z l)\/∃k,dW hs k l) (h5:s[l5]?=some (.lst (L.map PV.str))) (h6:s[l6]?=some (.lst (nm.map PV.str))) (ne:l5≠l6) (b1:L.length<=1000) (b2:nm.length<=1000) :
  ∃s' y8,rD (eL pv nz bits ws fv l5 l6 (some l) z8 z9 z10 z11 z12 z13 z14) s=.ok (.nx (eL pv nz bits ws fv l5 l6 (some l) y8 z9 z10 z11 z12 z13 z14)) s'/\LW l5 l6 s s' (L++grow ws nz L (li l)) (nm++grow ws nz L (li l)):=by
 have same:LW l5 l6 s s (L++[]) (nm++[]):=⟨by simpa using h5,by simpa using h6,λ_ _ _ _ e=>e⟩
 have no:∀{w:Str} {r:An},w ≠ "call" -> w ≠ "let" -> rD (eL pv nz bits ws fv l5 l6 (some (.tup (.str w::r))) z8 z9 z10 z11 z12 z13 z14) s=.ok (.nx (eL pv nz bits ws fv l5 l6 (some (.tup (.str w::r))) (some (.bl false)) z9 z10 z11 z12 z13 z14)) s:=λh1 h2 =>
  zB (zN (zp (zp (zf rfl) rfl yN) rfl (dG h1 _))) (zB (yD (q0 rfl (dG h2 _))) Iu)
 rcases h with ⟨k,z,h⟩|⟨k,h⟩
 ·cases h with
  | call f as =>
   rw [lM]
   obtain ⟨s',E,W⟩:=Ir (pv:=pv) (nz:=nz) (bits:=bits) (ws:=ws) (fv:=fv) (z9:=z9) (z10:=z10) (z11:=z11) (z12:=z12) (z13:=z13) (z14:=z14) (l:=.tup [.str "call", .str z,.str f,.tup as]) (z:=z) (λs=>js) h5 h6 ne b1 b2
   exact ⟨s',_,zB (zN (zp (zp (zf rfl) rfl yN) rfl (fY _))) (zB (yD (q0 rfl (dG Iq _))) E),W⟩
  | let_ o n as ho hl bT =>
   rw [lL]
   have few:=A6 _ ho
   have IR:=Io false (pk nz z) ws s
   rw [Bool.false_xor] at IR
   have P1:(ze (yH false) (zC (zd (zc 1) (zd (ze zv (zc 7) (Ar 1)) zo))) (zc 3)) (eL pv nz bits ws fv l5 l6 (some (.tup [.str "let", .str z,.str o,.tup as])) (some (.bl false)) z9 z10 z11 z12 z13 z14) s=.ok (.bl (a5 (pk nz z) ws)) s:=zp (zX (zT (zf rfl) (zp (zf rfl) rfl js)) (by simp)) (zf rfl) IR
   have S8:∃s1,(mD (ze (yH false) (zC (zd (zc 1) (zd (ze zv (zc 7) (Ar 1)) zo))) (zc 3)) (zu oH (zd (jd (yG (ze zv (zc 7) (Ar 3))) (zu kE (zd (zc 0) (zd (zc 6) zo)))) zo))) (eL pv nz bits ws fv l5 l6 (some (.tup [.str "let", .str z,.str o,.tup as])) (some (.bl false)) z9 z10 z11 z12 z13 z14) s=.ok (.bl (as.any (aK L)||a5 (pk nz z) ws)) s1/\Old s s1:=by
    cases hr:a5 (pk nz z) ws with
    | true=>rw [hr] at P1;exact ⟨s,by rw [Bool.or_true];exact UW P1,Old.refl _⟩
    | false =>
     rw [hr] at P1
     have C:=lB (fe:=(zu kE (zd (zc 0) (zd (zc 6) zo)))) (env:=eL pv nz bits ws fv l5 l6 (some (.tup [.str "let", .str z,.str o,.tup as])) (some (.bl false)) z9 z10 z11 z12 z13 z14) (f:=λa=>.bl (aK L a)) (st:=s) as (λx hx=>zE (zT (zf rfl) (zf rfl)) (Hz (bT x hx) (.inr h5))) []
     rw [List.nil_append,show List.map (λa=>PV.bl (aK L a)) as=List.map PV.bl (as.map (aK L)) by simp] at C
     have AN:=UY (s:=s++[.lst ((as.map (aK L)).map PV.bl)]) (n:=s.length) (bs:=as.map (aK L)) (yj _ _)
     refine ⟨s++[.lst ((as.map (aK L)).map PV.bl)],?_,zU _ _⟩
     rw [Bool.or_false,show as.any (aK L)=(as.map (aK L)).any id by rw [List.any_map];rfl]
     refine UX P1 (zE (zL ?_) AN)
     rw [iI,jz,zp (zf rfl) rfl iN,zG]
     show (Res.ok (Sq.im as) s).bind _=_
     rw [zG,iJ,zF (by simp [lim];simp at few;omega)]
     exact C
   obtain ⟨s1,E8,o1⟩:=S8
   have G:∀{X:Res Fl},kL (eL pv nz bits ws fv l5 l6 (some (.tup [.str "let", .str z,.str o,.tup as])) (some (.bl (as.any (aK L)||a5 (pk nz z) ws))) z9 z10 z11 z12 z13 z14) s1=X->rD (eL pv nz bits ws fv l5 l6 (some (.tup [.str "let", .str z,.str o,.tup as])) z8 z9 z10 z11 z12 z13 z14) s=X:=λhX =>
    zB (zN (zp (zp (zf rfl) rfl yN) rfl (dG n1 _))) (zB (yR (q0 rfl (fY _)) (zN E8)) hX)
   rw [show grow ws nz L (.let_ z as)=(if (as.any (aK L)||a5 (pk nz z) ws)=true then [z] else []) from rfl]
   cases hc:(as.any (aK L)||a5 (pk nz z) ws) with
   | true =>
    rw [hc] at G
    rw [zF rfl]
    obtain ⟨s',E,W⟩:=Ir (pv:=pv) (nz:=nz) (bits:=bits) (ws:=ws) (fv:=fv) (z9:=z9) (z10:=z10) (z11:=z11) (z12:=z12) (z13:=z13) (z14:=z14) (l:=.tup [.str "let", .str z,.str o,.tup as]) (z:=z) (λs=>js) (o1 _ _ h5) (o1 _ _ h6) ne b1 b2
    exact ⟨s',_,G E,W.1,W.2.1,λm so q1 q2 e=>W.2.2 m so q1 q2 (o1 _ _ e)⟩
   | false =>
    rw [hc] at G
    rw [zP (by simp)]
    exact ⟨s1,_,G Iu,by simpa using o1 _ _ h5,by simpa using o1 _ _ h6,λm so _ _ e=>o1 _ _ e⟩
 ·cases h with
  | give x hx=>rw [show li (.tup [.str "give", x])=.oth by cases hx<;>rfl];exact ⟨s,_,no n3 tY,same⟩
  | fail w=>exact ⟨s,_,no n5 AY,same⟩
  | if_ x v1 v2 hx=>rw [show li (.tup [.str "if", x,v1,v2])=.oth by cases hx<;>rfl];exact ⟨s,_,no n8 GP,same⟩
  | go f as=>rw [lN];exact ⟨s,_,no n7 tZ,same⟩
end
def Iv {Fs:List FD}{ws:Ag}{nz:Str}{L:Ad}{x:Li}{l:List Li}:(wk Fs ws nz L (x::l)).1=grow ws nz L x++(wk Fs ws nz (L++grow ws nz L x) l).1:=by
 cases x with
 | let_ z as =>
  by_cases h:(as.any (aK L)||a5 (pk nz z) ws)=true
  ·have e1:wk Fs ws nz L (.let_ z as::l)=(z::(wk Fs ws nz (L++[z]) l).1,(wk Fs ws nz (L++[z]) l).2):=by rw [wk,zF h]
   have e2:grow ws nz L (.let_ z as)=[z]:=zF h
   rw [e1,e2]
   rfl
  ·have e1:wk Fs ws nz L (.let_ z as::l)=wk Fs ws nz L l:=by rw [wk,zP h]
   have e2:grow ws nz L (.let_ z as)=[]:=zP h
   rw [e1,e2]
   simp
 | call z f as=>rw [wk];rfl
 | go f as=>rw [wk,show grow ws nz L (.go f as)=[] from rfl];simp
 | oth=>rw [wk,show grow ws nz L .oth=[] from rfl];simp
def U0 {hs:List (Str×Nat)}{nk:Ad}{ls:An}{zs:Ad}(h:cb hs nk ls zs):∀p∈a8 ls,(p.1,p.2.length)∈hs/\∃k,∀a∈p.2,cv k a:=by
 intro p hp
 obtain ⟨x,hx,e⟩:=List.mem_filterMap.mp hp
 obtain ⟨l,hl,el⟩:=jv.mp hx
 clear hx
 subst el
 rcases rq h l hl with ⟨k,z,h⟩|⟨k,h⟩
 ·cases h with
  | let_ o n as=>rw [lL] at e;cases e
  | call f as hf bT=>rw [lM] at e;cases e;exact ⟨hf,k,bT⟩
 ·cases h with
  | give y hy=>have q:li (.tup [.str "give", y])=.oth:=(by cases hy<;>rfl);rw [q] at e;cases e
  | fail w=>cases e
  | if_ y v1 v2 hy=>have q:li (.tup [.str "if", y,v1,v2])=.oth:=(by cases hy<;>rfl);rw [q] at e;cases e
  | go f as hf bT=>rw [lN] at e;cases e;exact ⟨hf,k,bT⟩
theorem Iw:∀{a b:List Bool}{k:Nat}{x y:Bool},a[k]?=some x->b[k]?=some y->(f7 a b)[k]?=some (x||y)
 | [],_,_,_,_,h,_=>by simp at h
 | _::_,[],_,_,_,_,h=>by simp at h
 | p::a,q::b,0,x,y,h,h'=>by simp at h h';subst h h';rfl
 | p::a,q::b,k+1,x,y,h,h'=>by
  rw [show f7 (p::a) (q::b)=(p||q)::f7 a b from rfl]
  simpa using Iw (a:=a) (b:=b) (k:=k) (by simpa using h) (by simpa using h')
noncomputable abbrev Iy:Aj:=(zY (jI (mB (ze ye (ze zv (zc 12) (zc 14)) (Ar 1))) (mB (zu kE (zd (ze zv (zc 11) (zc 14)) (zd (zc 5) zo)))))
  (zH 13 (ze ya (zc 13) (ze kn (Ar 1) (zc 14))))
  yd)
noncomputable abbrev BO:Aj:=(zw (zH 12 (jd (yG (ze zv (zu lH (zd (zc 0) (zd (zc 10) zo))) (Ar 1))) (zu ou (zd (ze (yH false) (zC (zd (zc 11) (zd (zc 0) zo))) (zc 4)) zo))))
  (zw (zH 13 (Ar 0))
  (zw (yV (bP (zd (zu yS (zd (zc 12) zo)) zo)) (gN 14)
  Iy)
  (yK (yF yJ (zc 9) (zc 13))))))
noncomputable abbrev nC (b:Bool):PV:=.int (if b then 1 else 0)
theorem U3 {Fs:List FD}(P:bC Fs) {G:FD}(hG:G∈Fs) {as:An}{nk:Ad}(ha:∀a∈as,cv nk a) (hl:G.ps.length=as.length) {nz:Str}{bits:Int}{ws:Ag}{fv:PV}{l5 l6 l9:Nat}{z7 z8 z12 z13 z14:Ao}{s:aa}{L:Ad}{gs:An}(h5:s[l5]?=some (.lst (L.map PV.str))) (h9:s[l9]?=some (.lst gs)) (hg:gs.length<=1000) :
  ∃s' lO lP f9,BO (eL (.tup (Fs.map FD.v)) nz bits ws fv l5 l6 z7 z8 (At l9) (some (.str G.nz)) (some (.tup as)) z12 z13 z14) s=.ok (.nx (eL (.tup (Fs.map FD.v)) nz bits ws fv l5 l6 z7 z8 (At l9) (some (.str G.nz)) (some (.tup as)) lO lP f9)) s'/\s'[l9]?=some (.lst (gs++[.int (aM (bI ws L G as))]))/\b0 l9 s s':=by
 have np:=(P.fn G hG).np
 have BY:=BI P hG s
 have C:=lB (fe:=(zu ou (zd (ze (yH false) (zC (zd (zc 11) (zd (zc 0) zo))) (zc 4)) zo))) (env:=eL (.tup (Fs.map FD.v)) nz bits ws fv l5 l6 z7 z8 (At l9) (some (.str G.nz)) (some (.tup as)) z12 z13 z14) (f:=λx=>match x with | .str p=>nC (a5 (pk G.nz p) ws)|_=>.non) (st:=s) (G.ps.map PV.str) (λx hx=>by
  obtain ⟨p,_,rfl⟩:=jv.mp hx
  have IR:=Io false (pk G.nz p) ws s
  rw [Bool.false_xor] at IR
  exact zE (zL (zp (zX (zT (zf rfl) (zf rfl)) (by simp)) (zf rfl) IR)) (OH _)) []
 rw [List.nil_append,List.map_map] at C
 let kb:=G.ps.map λp=>a5 (pk G.nz p) ws
 have ek:(G.ps.map ((λx=>match x with | .str p=>nC (a5 (pk G.nz p) ws)|_=>.non)∘PV.str))=kb.map nC:=by simp [kb,Function.comp_def]
 rw [ek] at C
 let s1:=s++[SO.lst (kb.map nC)]
 have Bf:s1[s.length]?=some (.lst (kb.map nC)):=yj _ _
 have Iz:=w6 Bf
 have kl:kb.length=G.ps.length:=by simp [kb]
 rw [yI,kl] at Iz
 have C':(jd (yG (ze zv (zu lH (zd (zc 0) (zd (zc 10) zo))) (Ar 1))) (zu ou (zd (ze (yH false) (zC (zd (zc 11) (zd (zc 0) zo))) (zc 4)) zo))) (eL (.tup (Fs.map FD.v)) nz bits ws fv l5 l6 z7 z8 (At l9) (some (.str G.nz)) (some (.tup as)) z12 z13 z14) s=.ok (.ref s.length) s1:=by
  rw [iI,jz,zp (zE (zT (zf rfl) (zf rfl)) BY) rfl js,zG]
  show (Res.ok (Sq.im (G.ps.map PV.str)) s).bind _=_
  rw [zG,iJ,zF (by simp [lim];omega)]
  exact C
 have U4:(bI ws L G as).length=G.ps.length:=by unfold bI;rw [BC (by simp;omega)];simp
 obtain ⟨e',s2,F,⟨f9,he⟩,hs⟩:=mZ (gt:=gN 14) (body:=Iy) (fs:=(zd (zu yS (zd (zc 12) zo)) zo)) (e:=eL (.tup (Fs.map FD.v)) nz bits ws fv l5 l6 z7 z8 (At l9) (some (.str G.nz)) (some (.tup as)) (At s.length) (some (.int 0)) z14) (st:=s1) (λk e s'=>(∃f9,e=eL (.tup (Fs.map FD.v)) nz bits ws fv l5 l6 z7 z8 (At l9) (some (.str G.nz)) (some (.tup as)) (At s.length) (some (.int (aM ((bI ws L G as).take k)))) f9)/\s'=s1) G.ps.length (by omega) (zL (zE (zL (zf rfl)) Iz)) (λk e s' hk ⟨⟨f9,he⟩,hs⟩=>by
  subst he hs
  have BP:kb[k]?=some (kb[k]'(by omega)):=yx (by omega)
  generalize kb[k]'(by omega)=hb1 at BP
  have BQ:as[k]?=some (as[k]'(by omega)):=yx (by omega)
  have uY:as[k]'(by omega)∈as:=wV _
  generalize as[k]'(by omega)=ak at BQ uY
  have zg:(bI ws L G as)[k]?=some (aK L ak||hb1):=Iw (by rw [yM,BQ];rfl) BP
  have tk:aM ((bI ws L G as).take (k+1))=aM ((bI ws L G as).take k)+(if (aK L ak||hb1)=true then 2 ^ k else 0):=by
   rw [g9 zg,Bh,List.length_take,U4,Nat.min_eq_left (by omega)]
  have I1:zv (.ref s.length) (.int (k:Int)) s1=.ok (nC hb1) s1:=by
   rw [mL,yr Bf,a4 (x:=nC hb1) (by rw [yM,BP];rfl)]
   rfl
  have I2:zv (.tup as) (.int (k:Int)) s1=.ok ak s1:=by
   show b3 (dh as (k:Int)) s1=_
   rw [a4 BQ]
   rfl
  have LA:=Hz (ha ak uY) (s:=s1) (L:=L) (d:=l5) (.inr (zU _ _ _ _ h5))
  have T:(jI (mB (ze ye (ze zv (zc 12) (zc 14)) (Ar 1))) (mB (zu kE (zd (ze zv (zc 11) (zc 14)) (zd (zc 5) zo))))) (eL (.tup (Fs.map FD.v)) nz bits ws fv l5 l6 z7 z8 (At l9) (some (.str G.nz)) (some (.tup as)) (At s.length) (some (.int (aM ((bI ws L G as).take k)))) (Au k)) s1=.ok (aK L ak||hb1) s1:=by
   cases hb1 with
   | true=>rw [Bool.or_true];exact xU (yc (zp (zp (zf rfl) (zf rfl) I1) rfl (bq true (by simp) _)))
   | false=>rw [Bool.or_false];exact mR (yc (zp (zp (zf rfl) (zf rfl) I1) rfl (bq false (by simp) _))) (yc (zE (zT (zp (zf rfl) (zf rfl) I2) (zf rfl)) LA))
  refine ⟨eL (.tup (Fs.map FD.v)) nz bits ws fv l5 l6 z7 z8 (At l9) (some (.str G.nz)) (some (.tup as)) (At s.length) (some (.int (aM ((bI ws L G as).take k)))) (Au k),?_⟩
  rw [tk]
  cases hc:(aK L ak||hb1) with
  | true =>
   rw [hc] at T
   rw [zF rfl]
   exact ⟨_,_,rfl,yR T (zN (zp (zf rfl) (zp rfl (zf rfl) (Bw k (by omega) _)) (qI _ _))),⟨_,rfl⟩,rfl⟩
  | false =>
   rw [hc] at T
   rw [zP (by simp),Int.add_zero]
   exact ⟨_,_,rfl,yD T,⟨_,rfl⟩,rfl⟩) ⟨⟨z14,by simp [aM]⟩,rfl⟩
 subst he hs
 rw [List.take_of_length_le (by omega)] at F
 have BR:s1[l9]?=some (.lst gs):=zU _ _ _ _ h9
 have A:=wz (y:=.int (aM (bI ws L G as))) BR (by omega)
 exact ⟨_,_,_,_,zB (zN C') (zB (zN rfl) (zB F (jW (jL (zf rfl) BR (zf rfl) A)))),je (yk BR),(zU _ _).bar.trans kH⟩
def IA (ws:Ag) (nz:Str) (L:Ad) (x:Li):(grow ws nz L x).length<=1:=by
 cases x with
 | let_ z as =>
  show (if (as.any (aK L)||a5 (pk nz z) ws)=true then [z] else []).length<=1
  by_cases h:(as.any (aK L)||a5 (pk nz z) ws)=true
  ·rw [zF h];simp
  ·rw [zP h];simp
 | call z f as=>simp [grow]
 | go f as=>simp [grow]
 | oth=>simp [grow]
theorem BU {Fs:List FD}{ws:Ag}{nz:Str}:∀(l:List Li) (L:Ad),(wk Fs ws nz L l).1.length<=l.length
 | [],L=>by simp [wk]
 | x::l,L=>by
  rw [Iv,h_]
  have h1:=BU (Fs:=Fs) (ws:=ws) (nz:=nz) l (L++grow ws nz L x)
  have h2:=IA ws nz L x
  rw [jP]
  omega
theorem IB {Fs:List FD}(P:bC Fs) {F:FD}(hF:F∈Fs) (bits:Int) (hb:0<=bits) (ws:Ag) (st:aa):∃s1,qU [.tup (Fs.map FD.v),.str F.nz,.int bits,.tup (ws.map aO)] st=.ok (ck Fs ws F bits) s1/\Old st s1:=by
 have ok:=P.fn F hF
 obtain ⟨dd,oS,B⟩:=ok.bk
 have np:=ok.np
 have nl:=ok.nl
 have al:=rq ok.ln
 let pv:PV:=.tup (Fs.map FD.v)
 let L0:=picks (bitAt bits) 0 F.ps
 have l0:L0.length<=F.ps.length:=HV
 let T:=(d_ Fs ws F bits).1
 have tl:T.length<=F.ls.length:=by have:=BU (Fs:=Fs) (ws:=ws) (nz:=F.nz) (F.ls.map li) L0;simpa using this
 have BY:=BI P hF st
 let t1:=st++[SO.lst (L0.map PV.str)]
 have E5:tR [F.v,.int bits] st=.ok (.ref st.length) t1:=T8 (f:=.str F.nz) (r:=[F.bv]) bits hb (by omega) st
 let t2:=t1++[SO.lst []]
 have l1:t1.length=st.length+1:=by simp [t1]
 obtain ⟨r,t3,E7,hr,o3⟩:=Bm B (by omega) (by omega) t2
 have h5:t3[st.length]?=some (.lst (L0.map PV.str)):=o3 _ _ (zU _ _ _ _ (yj _ _))
 have h6:t3[t1.length]?=some (.lst (([]:Ad).map PV.str)):=o3 _ _ (yj _ _)
 have oB:∀(m:Nat) so,st[m]?=some so->t3[m]?=some so:=λm so e=>o3 _ _ (zU _ _ _ _ (zU _ _ _ _ e))
 have lp:=Ia B
 have r5:r≠st.length:=λe=>by
  rw [e,h5] at hr
  have q:L0.map PV.str=F.ls:=by injection hr with h;injection h
  obtain ⟨x,hx⟩:=yt.mpr ⟨lp,rfl⟩ |> λh=>(⟨_,h⟩:∃x,F.ls[0]?=some x)
  rw [<-q,yM] at hx
  obtain ⟨z,_,rfl⟩:=Option.map_eq_some_iff.mp hx
  have:=al (.str z) (by rw [<-q];exact wb (by rw [yM];exact hx))
  rcases this with ⟨k,y,h⟩|⟨k,h⟩<;>cases h
 have r6:r≠t1.length:=λe=>by
  rw [e,h6] at hr
  have q:([]:An)=F.ls:=by injection hr with h;injection h
  rw [<-q] at lp
  simp at lp
 obtain ⟨e',s4,FF,⟨y7,y8,he⟩,L,nm,g5,g6,g7,q1,q2,q3,q4,gB⟩:=oO (g:=gN 7) (body:=rD) (n:=r) F.ls (λi e s=>(∃y7 y8,e=eL pv F.nz bits ws F.v st.length t1.length y7 y8 none none none none none none)/\∃L nm,s[st.length]?=some (.lst (L.map PV.str))/\s[t1.length]?=some (.lst (nm.map PV.str))/\s[r]?=some (.lst F.ls)/\L++(wk Fs ws F.nz L ((F.ls.drop i).map li)).1=L0++T/\nm++(wk Fs ws F.nz L ((F.ls.drop i).map li)).1=T/\L.length<=6+i/\nm.length<=i/\∀(m:Nat) so,st[m]?=some so->s[m]?=some so) (λi e s ⟨_,L,nm,_,_,h,_⟩=>h) (λi x e s hx ⟨⟨y7,y8,he⟩,L,nm,g5,g6,g7,q1,q2,q3,q4,gB⟩=>by
  subst he
  have hi:i<F.ls.length:=(yt.mp hx).1
  have qM:F.ls.drop i=x::F.ls.drop (i+1):=by
   rw [wa hi]
   congr 1
   exact (yt.mp hx).2
  obtain ⟨s',WH,E,w1,w2,w3⟩:=UZ (pv:=pv) (nz:=F.nz) (bits:=bits) (ws:=ws) (fv:=F.v) (z8:=y8) (z9:=none) (z10:=none) (z11:=none) (z12:=none) (z13:=none) (z14:=none) (al x (wb hx)) g5 g6 (by omega) (by omega) (by omega)
  rw [qM,yu,Iv] at q1 q2
  have gr:=IA ws F.nz L (li x)
  refine ⟨eL pv F.nz bits ws F.v st.length t1.length (some x) y8 none none none none none none,_,s',rfl,E,⟨_,_,rfl⟩,_,_,w1,w2,w3 _ _ r5 r6 g7,by rw [kK];exact q1,by rw [kK];exact q2,by simp;omega,by simp;omega,λm so e=>w3 m so (by have:=yk e;omega) (by have:=yk e;omega) (gB m so e)⟩) F.ls.length 0 (lim+1) (eL pv F.nz bits ws F.v st.length t1.length none none none none none none none none) t3 (by omega) (by simp [lim];omega) ⟨⟨none,none,rfl⟩,L0,[],h5,h6,hr,rfl,rfl,by omega,jB _,oB⟩
 subst he
 rw [List.drop_length] at q1 q2
 have U5:L=L0++T:=by simpa [wk] using q1
 have U6:nm=T:=by simpa [wk] using q2
 clear q1 q2
 subst U5
 rw [U6] at g6
 have U7:(yV (yG (zu kD (zd (ze zv (zc 4) (Ar 2)) zo))) (gN 7) rD) (eL pv F.nz bits ws F.v st.length t1.length none none none none none none none none) t2=.ok (.nx (eL pv F.nz bits ws F.v st.length t1.length y7 y8 none none none none none none)) s4:=by
  rw [wN,jz,zE (zL (zp (zf rfl) rfl wT)) E7,zG,oy,yr hr,zG]
  exact FF
 let s5:=s4++[SO.lst []]
 obtain ⟨a,s6,EA,hA,aN,o6⟩:=Ib P hF s5
 have U8:=o6 _ _ (zU s4 [SO.lst []] _ _ g5)
 have U9:=o6 _ _ (zU s4 [SO.lst []] _ _ g6)
 have U_:s6[s4.length]?=some (.lst []):=o6 _ _ (yj _ _)
 have a9:s4.length<a:=aN s4.length _ (yj _ _)
 have lk:=U0 ok.ln
 obtain ⟨e2,s7,F2,⟨cM,cN,lO,lP,f9,Va⟩,k9,kA,kB⟩:=oO (g:=g2 10 11) (body:=BO) (n:=a) (dm F.ls) (λi e s=>(∃cM cN lO lP f9,e=eL pv F.nz bits ws F.v st.length t1.length y7 y8 (At s4.length) cM cN lO lP f9)/\s[s4.length]?=some (.lst (((a8 F.ls).take i).map λp=>.int (gl Fs ws (L0++T) p.1 p.2)))/\s[a]?=some (.lst (dm F.ls))/\b0 s4.length s6 s) (λi e s h=>h.2.2.1) (λi x e s hx ⟨⟨cM,cN,lO,lP,f9,he⟩,k9,kA,kB⟩=>by
  subst he
  rw [yM] at hx
  obtain ⟨⟨f,as⟩,hp,rfl⟩:=Option.map_eq_some_iff.mp hx
  have hi:i<(a8 F.ls).length:=(yt.mp hp).1
  have Vb:(a8 F.ls).length<=F.ls.length:=ja (List.length_filterMap_le _ _) (by simp)
  obtain ⟨hh,nk,bT⟩:=lk _ (wb hp)
  obtain ⟨G,hG,eG,hl⟩:=uq hh
  simp only at eG hl bT
  subst eG
  obtain ⟨s',z12,z13,z14,E,w1,w2⟩:=U3 P hG bT hl (nz:=F.nz) (bits:=bits) (ws:=ws) (fv:=F.v) (l6:=t1.length) (z7:=y7) (z8:=y8) (z12:=lO) (z13:=lP) (z14:=f9) (L:=L0++T) (kB _ _ (by have:=yk g5;omega) U8) k9 (by simp;omega)
  refine ⟨eL pv F.nz bits ws F.v st.length t1.length y7 y8 (At s4.length) (some (.str G.nz)) (some (.tup as)) lO lP f9,_,s',rfl,E,⟨_,_,_,_,_,rfl⟩,?_,w2 _ _ (by omega) kA,kB.trans w2⟩
  rw [w1,g9 hp,ju,<-Bz P hG]
  rfl) (dm F.ls).length 0 (lim+1) (eL pv F.nz bits ws F.v st.length t1.length y7 y8 (At s4.length) none none none none none) s6 (by omega) (by
   have Vb:(a8 F.ls).length<=F.ls.length:=ja (List.length_filterMap_le _ _) (by simp)
   show ((a8 F.ls).map _).length<1000000+1
   rw [yI]
   omega) ⟨⟨none,none,none,none,none,rfl⟩,U_,hA,b0.refl _ _⟩
 subst Va
 rw [yI,List.take_length,show (λp:Str×List PV=>PV.int (gl Fs ws (L0++T) p.1 p.2))=PV.int∘(λp=>gl Fs ws (L0++T) p.1 p.2) from rfl,<-List.map_map,<-UQ (nz:=F.nz) ok.ln L0 ok.nd] at k9
 have Vc:(yV (yG (zu oN (zd (zc 4) zo))) (g2 10 11) BO) (eL pv F.nz bits ws F.v st.length t1.length y7 y8 (At s4.length) none none none none none) s5=.ok (.nx (eL pv F.nz bits ws F.v st.length t1.length y7 y8 (At s4.length) cM cN lO lP f9)) s7:=by
  rw [wN,jz,zE (zL (zf rfl)) EA,zG,oy,yr hA,zG]
  exact F2
 have Vd:=kB _ _ (by have:=yk g6;omega) U9
 refine ⟨s7,yg rfl (zB (zN (zE (zT (zf rfl) (zf rfl)) BY)) (zB (zN (zE (zT (zf rfl) (zf rfl)) E5)) (zB (zN (jh jt (by simp))) (zB U7 (zB (zN (jh jt (by simp))) (zB Vc (yn (zX (wo (zf rfl) (zf rfl) (zE (zL (zf rfl)) (by rw [wm,yr Vd])) (zE (zL (zf rfl)) (by rw [wm,yr k9]))) (by simp))))))))),λm so e=>kB m so (by have:=yk (gB m so e);omega) (o6 _ _ (zU _ _ _ _ (gB m so e)))⟩
noncomputable abbrev IC:Aj:=(zw (zH 5 (ze zv (zc 1) (zu jG (zd (zc 0) (zd (ze ya (Ar 31) (zc 4)) (zd (zu yS (zd (zc 1) zo)) zo))))))
  (zw (zH 6 (ze ya (zu gQ (zd (ze zv (zc 5) (Ar 1)) zo)) (yU (zd (As "nothing") zo))))
  (zw (zH 6 (ze ya (zc 6) (lC (yG (zu kD (zd (ze zv (zc 5) (Ar 2)) zo))) (jI (mB (ze ye (ze zv (zc 0) (Ar 0)) (As "let"))) (mB (ze ye (ze zv (zc 0) (Ar 0)) (As "call")))) (ze zv (zc 0) (Ar 1)))))
  (yK (yF yJ (zc 2) (zC (zd (ze zv (zc 5) (Ar 0)) (zd (ze zv (zc 6) (zu jG (zd (zc 0) (zd (ze ya (Ar 35) (zc 4)) (zd (zu yS (zd (zc 6) zo)) zo))))) zo))))))))
noncomputable def lQ:PV->Str
 | .tup (_ :: .str z::_)=>z
 | _ => ""
def Ve {hs:List (Str×Nat)}{k:Ad}{z:Str}{l:PV}(h:cL hs k z l):lQ l=z:=by cases h<;>rfl
def Vf {hs:List (Str×Nat)} {l:PV} (h:(∃k z,cL hs k z l)\/∃k,dW hs k l) {e:zm} {s:aa} (h0:e[0]?=some (some l)):(jI (mB (ze ye (ze zv (zc 0) (Ar 0)) (As "let"))) (mB (ze ye (ze zv (zc 0) (Ar 0)) (As "call")))) e s=.ok (d9 l) s:=by
 rcases h with ⟨k,z,h⟩|⟨k,h⟩
 ·rw [Tw h]
  cases h with
  | let_ o n as=>exact xU (q0 h0 (fY _))
  | call f as=>exact mR (q0 h0 (dG Iq _)) (q0 h0 (fY _))
 ·have no:=uc h
  rw [Hr no]
  obtain ⟨w,r,rfl,h1,h2⟩:=no
  exact mR (q0 h0 (dG h1 _)) (q0 h0 (dG h2 _))
def Vg (ls:An):(ls.flatMap λx=>if d9 x=true then [PV.str (lQ x)] else [])=((ls.filter d9).map lQ).map PV.str:=by
 induction ls with
 | nil=>rfl
 | cons x l ih =>
  rw [rE,ih]
  cases hx:d9 x with
  | true=>rw [zF rfl,List.filter_cons_of_pos hx];rfl
  | false=>rw [zP (by simp),List.filter_cons_of_neg (by rw [hx];simp)];rfl
noncomputable abbrev eH (c:Int) (pv:PV) (h:Nat) (m:Nat) (z4 z5 z6:Ao):zm:=[some (.int c),some pv,At h,Au m,z4,z5,z6]
theorem Vh {Fs:List FD}(P:bC Fs) (c:Int) {h m i:Nat}(hi:i<=100) {z5 z6:Ao}{s:aa}{ws:Ag}(hh:s[h]?=some (.lst (ws.map aO))) (hw:ws.length<=100) :
  ∃s' k y5 y6,IC (eH c (.tup (Fs.map FD.v)) h m (Au i) z5 z6) s=.ok (.nx (eH c (.tup (Fs.map FD.v)) h m (Au i) y5 y6)) s'/\s'[h]?=some (.lst ((ws++[k]).map aO))/\b0 h s s':=by
 have pos:0<Fs.length:=by have:=P.ok.pos;simpa using this
 have few:=P.few
 have L1:yS [.tup (Fs.map FD.v)] s=.ok (.int (Fs.length:Int)) s:=by
  rw [sX,yI]
 obtain ⟨j,hj,ej⟩:=wU c (31+i) Fs.length (by omega) pos s
 have hF:Fs[j]?=some (Fs[j]'hj):=yx hj
 generalize Fs[j]'hj=F at hF
 have hm:=wb hF
 have ok:=P.fn F hm
 obtain ⟨dd,oS,B⟩:=ok.bk
 have nl:=ok.nl
 have np:=ok.np
 have al:=rq ok.ln
 have I5:zv (.tup (Fs.map FD.v)) (.int (j:Int)) s=.ok F.v s:=by
  show b3 (dh (Fs.map FD.v) (j:Int)) s=_
  rw [a4 (x:=F.v) (by rw [yM,hF];rfl)]
  rfl
 let t1:=s++[SO.lst (F.ps.map PV.str)]
 let t2:=t1++[SO.lst [.str "nothing"]]
 let n0:Ad:=F.ps++[("nothing" : Str)]
 let t3:=t2++[SO.lst (n0.map PV.str)]
 have A1:ya (.ref s.length) (.ref t1.length) t2=.ok (.ref t2.length) t3:=by
  have:=oP (s:=t2) (m:=s.length) (n:=t1.length) (xs:=F.ps.map PV.str) (ys:=[.str "nothing"]) (zU _ _ _ _ (yj _ _)) (yj _ _) (by simp;omega)
  rw [show F.ps.map PV.str++[.str "nothing"]=n0.map PV.str by simp [n0]] at this
  exact this
 obtain ⟨r,t4,E4,hr,o4⟩:=Bm B (by omega) (by omega) t3
 let zs:=(F.ls.filter d9).map lQ
 let t5:=t4++[SO.lst (zs.map PV.str)]
 have C:∀(e:zm),e[5]?=some (some F.v)->(lC (yG (zu kD (zd (ze zv (zc 5) (Ar 2)) zo))) (jI (mB (ze ye (ze zv (zc 0) (Ar 0)) (As "let"))) (mB (ze ye (ze zv (zc 0) (Ar 0)) (As "call")))) (ze zv (zc 0) (Ar 1))) e t3=.ok (.ref t4.length) t5:=λe he=>by
  rw [Fo,jz,zE (zL (zp (zf he) rfl wT)) E4,zG,oy,yr hr,zG]
  have:=AZ (ft:=(jI (mB (ze ye (ze zv (zc 0) (Ar 0)) (As "let"))) (mB (ze ye (ze zv (zc 0) (Ar 0)) (As "call"))))) (fe:=(ze zv (zc 0) (Ar 1))) (env:=e) (st:=t4) (n:=r) (p:=d9) (f:=λx=>PV.str (lQ x)) F.ls hr (λx hx=>Vf (al x hx) rfl) (λx hx hp=>by
   rcases al x hx with ⟨k,z,h⟩|⟨k,h⟩
   ·rw [Ve h];exact zp (zf rfl) rfl (Bn h _)
   ·rw [Hr (uc h)] at hp;cases hp) F.ls.length 0 (lim+1) [] (by omega) (by simp [lim];omega)
  rw [List.drop_zero,List.nil_append,Vg] at this
  exact this
 have zl:zs.length<=F.ls.length:=by simp only [zs,yI];exact List.length_filter_le _ _
 have Vi:t5[t2.length]?=some (.lst (n0.map PV.str)):=zU _ _ _ _ (o4 _ _ (yj _ _))
 let n1:Ad:=n0++zs
 let t6:=t5++[SO.lst (n1.map PV.str)]
 have WI:n0.length=F.ps.length+1:=by simp [n0]
 have A2:ya (.ref t2.length) (.ref t4.length) t5=.ok (.ref t5.length) t6:=by
  have:=oP (s:=t5) (m:=t2.length) (n:=t4.length) (xs:=n0.map PV.str) (ys:=zs.map PV.str) Vi (yj _ _) (by simp only [yI];omega)
  rw [<-ju] at this
  exact this
 have h6:t6[t5.length]?=some (.lst (n1.map PV.str)):=yj _ _
 have WJ:n1.length=n0.length+zs.length:=by simp [n1]
 have L6:=w6 h6
 rw [yI] at L6
 obtain ⟨g,hg,eg⟩:=wU c (35+i) n1.length (by omega) (by omega) t6
 have I6:zv (.ref t5.length) (.int (g:Int)) t6=.ok (.str (n1[g]'hg)) t6:=fA h6 hg
 have o6:Old s t6:=(zU _ _).trans ((zU _ _).trans ((zU _ _).trans (o4.trans ((zU _ _).trans (zU _ _)))))
 have BV:=o6 _ _ hh
 have A:=wz (y:=aO (pk F.nz (n1[g]'hg))) BV (by simp;omega)
 refine ⟨_,pk F.nz (n1[g]'hg),_,_,zB (zN (zp (zf rfl) (zE (yL (zf rfl) (zp rfl (zf rfl) (yZ 31 i)) (zE (zL (zf rfl)) L1)) ej) I5)) (zB (zN (zp (zE (zL (zp (zf rfl) rfl js)) Ss) (jh (zL rfl) (by simp)) A1)) (zB (zN (zp (zf rfl) (C _ rfl) A2)) (jW (jL (zf rfl) BV (zX (zT (zp (zf rfl) rfl yN) (zp (zf rfl) (zE (yL (zf rfl) (zp rfl (zf rfl) (yZ 35 i)) (zE (zL (zf rfl)) L6)) eg) I6)) (by simp)) A)))),?_,o6.bar.trans kH⟩
 rw [je (yk BV),ju]
 rfl
theorem Vj {Fs:List FD}(P:bC Fs) (c:Int) (st:aa):∃(ws:Ag) (s1:aa),AO [.int c,.tup (Fs.map FD.v)] st=.ok (.tup (ws.map aO)) s1/\ws.length<=30/\Old st s1:=by
 let s0:=st++[SO.lst []]
 obtain ⟨a,ha,ea⟩:=wU c 30 4 (by decide) (by decide) s0
 obtain ⟨b,hb,eb⟩:=wU c 29 8 (by decide) (by decide) s0
 obtain ⟨d,hd,ed⟩:=wU c 28 30 (by decide) (by decide) s0
 have K:∃m:Nat,m<=30/\(zY (mB (ze ye (zu jG (zd (zc 0) (zd (Ar 29) (zd (Ar 8) zo)))) (Ar 1)))
  (zH 3 (zu jG (zd (zc 0) (zd (Ar 28) (zd (Ar 30) zo)))))
  yd) (eH c (.tup (Fs.map FD.v)) st.length a none none none) s0=.ok (.nx (eH c (.tup (Fs.map FD.v)) st.length m none none none)) s0:=by
  by_cases h1:b=1
  ·exact ⟨d,by omega,yR (yc (zp (zE (yL (zf rfl) rfl rfl) eb) rfl (bq true (by simp;omega) _))) (zN (zE (yL (zf rfl) rfl rfl) ed))⟩
  ·exact ⟨a,by omega,yD (yc (zp (zE (yL (zf rfl) rfl rfl) eb) rfl (bq false (by simp;omega) _)))⟩
 obtain ⟨m,hm,E3⟩:=K
 obtain ⟨e',s1,F,⟨z4,z5,z6,he⟩,ws,hw,hl,ob⟩:=mZ (gt:=gN 4) (body:=IC) (fs:=(zd (zc 3) zo)) (e:=eH c (.tup (Fs.map FD.v)) st.length m none none none) (st:=s0) (λi e s=>(∃z4 z5 z6,e=eH c (.tup (Fs.map FD.v)) st.length m z4 z5 z6)/\∃ws:Ag,s[st.length]?=some (.lst (ws.map aO))/\ws.length=i/\b0 st.length s0 s) m (by omega) (zL (zf rfl)) (λi e s hi ⟨⟨z4,z5,z6,he⟩,ws,hw,hl,ob⟩=>by
  subst he
  obtain ⟨s',k,y5,y6,E,w1,w2⟩:=Vh P c (m:=m) (i:=i) (by omega) (z5:=z5) (z6:=z6) hw (by omega)
  exact ⟨eH c (.tup (Fs.map FD.v)) st.length m (Au i) z5 z6,_,s',rfl,E,⟨_,_,_,rfl⟩,_,w1,by simp [hl],ob.trans w2⟩) ⟨⟨none,none,none,rfl⟩,[],yj _ _,rfl,b0.refl _ _⟩
 subst he
 exact ⟨ws,s1,yg rfl (zB (zN (jh jt (by simp))) (zB (zN (zE (yL (zf rfl) rfl rfl) ea)) (zB E3 (zB F (yn (zE (zL (zf rfl)) (by rw [wm,yr hw]))))))),by omega,λk so e=>ob k so (by have:=yk e;omega) (zU _ _ _ _ e)⟩
def ID (i:Int) (s:aa):mW [.int i] s=.ok (.bl true) s:=yg rfl (yn (qH (zE (zT (zf rfl) rfl) (show jy isT [.int i,.ty "int"] s=.ok (.bl true) s from rfl)) (show vW (zu (jy isT) (zd (zc 0) (zd (mC (.ty "bool")) zo))) [some (.int i)] s=.ok (.bl true) s from rfl)))
theorem BW {α:Type}:∀l:List α,l.map (λ_=>PV.bl true)=(List.replicate l.length true).map PV.bl
 | []=>rfl
 | x::l=>by rw [yu,BW l,jP,List.replicate_succ];rfl
def BX {s:aa}{n k:Nat}(h:s[n]?=some (.lst ((List.replicate k true).map PV.bl))):mO [.ref n] s=.ok (.bl true) s:=by
 rw [Qd h]
 simp
theorem Vk (f:Str) (b:Int) (zs:Ad) (gs:List Int) (h1:zs.length<=1000) (h2:gs.length<=1000) (s:aa):∃s1,qT [.tup [.str f,.int b,.tup (zs.map PV.str),.tup (gs.map PV.int)]] s=.ok (.bl true) s1/\Old s s1:=by
 let v:PV:=.tup [.str f,.int b,.tup (zs.map PV.str),.tup (gs.map PV.int)]
 have T1:(jI (wx (mB (zu (jy isT) (zd (zc 0) (zd (mC (.ty "tuple")) zo))))) (mB (ze wM (zu yS (zd (zc 0) zo)) (Ar 4)))) [some v] s=.ok false s:=mR (mS (b:=true) (yc (zE (zT (zf rfl) rfl) (show jy isT [v,.ty "tuple"] s=.ok (.bl true) s from rfl)))) (yc (zp (zE (zL (zf rfl)) (sX _)) rfl (by simp [wM,Mi.plain,dep,a_])))
 have T2:(jI (wx (mB (zu (jy isT) (zd (ze zv (zc 0) (Ar 0)) (zd (mC (.ty "str")) zo))))) (wx (mB (zu mW (zd (ze zv (zc 0) (Ar 1)) zo))))) [some v] s=.ok false s:=mR (mS (b:=true) (yc (zE (zT (zp (zf rfl) rfl yN) rfl) (show jy isT [.str f,.ty "str"] s=.ok (.bl true) s from rfl)))) (mS (b:=true) (yc (zE (zL (zp (zf rfl) rfl js)) (ID b s))))
 have T3:(jI (wx (mB (zu (jy isT) (zd (ze zv (zc 0) (Ar 2)) (zd (mC (.ty "tuple")) zo))))) (wx (mB (zu (jy isT) (zd (ze zv (zc 0) (Ar 3)) (zd (mC (.ty "tuple")) zo)))))) [some v] s=.ok false s:=mR (mS (b:=true) (yc (zE (zT (zp (zf rfl) rfl wT) rfl) (show jy isT [.tup (zs.map PV.str),.ty "tuple"] s=.ok (.bl true) s from rfl)))) (mS (b:=true) (yc (zE (zT (zp (zf rfl) rfl iN) rfl) (show jy isT [.tup (gs.map PV.int),.ty "tuple"] s=.ok (.bl true) s from rfl))))
 have C1:=lB (fe:=(zu (jy isT) (zd (zc 0) (zd (mC (.ty "str")) zo)))) (env:=[some v]) (f:=λ_=>.bl true) (st:=s) (zs.map PV.str) (λx hx=>by
  obtain ⟨z,_,rfl⟩:=jv.mp hx
  exact zE (zT (zf rfl) rfl) (show jy isT [.str z,.ty "str"] s=.ok (.bl true) s from rfl)) []
 have e1:([]:An)++(zs.map PV.str).map (λ_=>PV.bl true)=(List.replicate zs.length true).map PV.bl:=by rw [List.nil_append,BW,yI]
 rw [e1] at C1
 let s1:=s++[SO.lst ((List.replicate zs.length true).map PV.bl)]
 have C2:=lB (fe:=(zu mW (zd (zc 0) zo))) (env:=[some v]) (f:=λ_=>.bl true) (st:=s1) (gs.map PV.int) (λx hx=>by
  obtain ⟨z,_,rfl⟩:=jv.mp hx
  exact zE (zL (zf rfl)) (ID z s1)) []
 have e2:([]:An)++(gs.map PV.int).map (λ_=>PV.bl true)=(List.replicate gs.length true).map PV.bl:=by rw [List.nil_append,BW,yI]
 rw [e2] at C2
 let s2:=s1++[SO.lst ((List.replicate gs.length true).map PV.bl)]
 have D1:(jd (yG (ze zv (zc 0) (Ar 2))) (zu (jy isT) (zd (zc 0) (zd (mC (.ty "str")) zo)))) [some v] s=.ok (.ref s.length) s1:=by
  rw [iI,jz,zp (zf rfl) rfl wT,zG]
  show (Res.ok (Sq.im (zs.map PV.str)) s).bind _=_
  rw [zG,iJ,zF (by simp [lim];omega)]
  exact C1
 have D2:(jd (yG (ze zv (zc 0) (Ar 3))) (zu mW (zd (zc 0) zo))) [some v] s1=.ok (.ref s1.length) s2:=by
  rw [iI,jz,zp (zf rfl) rfl iN,zG]
  show (Res.ok (Sq.im (gs.map PV.int)) s1).bind _=_
  rw [zG,iJ,zF (by simp [lim];omega)]
  exact C2
 exact ⟨s2,yg rfl (zB (yD T1) (zB (yD T2) (zB (yD T3) (yn (qH (zE (zL D1) (BX (yj _ _))) (zE (zL D2) (BX (yj _ _)))))))),(zU _ _).trans (zU _ _)⟩
theorem Vl {Fs:List FD}{ws:Ag}{F:FD}(ok:bf (Fs.map FD.h) F) (P:bC Fs) (bits:Int):(d_ Fs ws F bits).1.length<=100/\(d_ Fs ws F bits).2.length<=100:=by
 have nl:=ok.nl
 have h1:=BU (Fs:=Fs) (ws:=ws) (nz:=F.nz) (F.ls.map li) (picks (bitAt bits) 0 F.ps)
 have h2:=(HZ P (ks:=ws) (nz:=F.nz) ok.ln (picks (bitAt bits) 0 F.ps)).1
 have h3:(a8 F.ls).length<=F.ls.length:=ja (List.length_filterMap_le _ _) (by simp)
 rw [yI] at h1
 constructor
 ·exact ja h1 nl
 ·show (wk Fs ws F.nz _ _).2.length<=100
  rw [h2]
  omega
def o8 {Fs:List FD}(P:bC Fs) {ws:Ag}{p:Pr}(g:Gd Fs p):∃F∈Fs,F.nz=p.1/\0<=p.2/\aV Fs ws p=ck Fs ws F p.2/\bJ Fs ws p=cV Fs ws F p.2:=by
 obtain ⟨F,hF,e,h0,_⟩:=g
 have rB:Fs.find? (λG=>decide (G.nz=p.1))=some F:=by rw [<-e];exact oZ P.nd hF
 refine ⟨F,hF,e,h0,?_,?_⟩
 ·unfold aV;rw [rB]
 ·unfold bJ;rw [rB]
theorem IE {Fs:List FD}(P:bC Fs) {ws:Ag}{fin:List Pr}(g:∀x∈fin,Gd Fs x) (h0:0<fin.length) (hl:fin.length<=100000) (s:aa):∃s1,tQ [.tup (fin.map (aV Fs ws))] s=.ok (.bl true) s1/\Old s s1:=by
 obtain ⟨ys,s',C,hy,o⟩:=tT (fe:=(zu qT (zd (zc 0) zo))) (env:=[some (.tup (fin.map (aV Fs ws)))]) (fin.map (aV Fs ws)) (λi ys s'=>ys=(List.replicate i true).map PV.bl/\Old s s') (λi x ys s' hx ⟨hy,o⟩=>by
  rw [yM] at hx
  obtain ⟨p,hp,rfl⟩:=Option.map_eq_some_iff.mp hx
  obtain ⟨F,hF,e,_,e1,_⟩:=o8 P (ws:=ws) (g p (wb hp))
  obtain ⟨l1,l2⟩:=Vl (ws:=ws) (P.fn F hF) P p.2
  obtain ⟨s2,E,o2⟩:=Vk F.nz p.2 (d_ Fs ws F p.2).1 (d_ Fs ws F p.2).2 (by omega) (by omega) s'
  refine ⟨.bl true,s2,zE (zL (zf rfl)) (by rw [e1];exact E),?_,o.trans o2⟩
  rw [hy,List.replicate_succ',ju]
  rfl) fin.length 0 [] s (by simp) ⟨rfl,Old.refl _⟩
 rw [yI] at hy
 have D:(jd (yG (zc 0)) (zu qT (zd (zc 0) zo))) [some (.tup (fin.map (aV Fs ws)))] s=.ok (.ref s'.length) (s'++[.lst ys]):=by
  rw [iI,jz,zf rfl,zG]
  show (Res.ok (Sq.im (fin.map (aV Fs ws))) s).bind _=_
  rw [zG,iJ,zF (by simp [lim];omega)]
  exact C
 refine ⟨s'++[.lst ys],yg rfl (yn (qH (zE (zT (zf rfl) rfl) (show jy isT [.tup (fin.map (aV Fs ws)),.ty "tuple"] s=.ok (.bl true) s from rfl)) (qH (zp (zE (zL (zf rfl)) (sX _)) rfl (lI true (by simp;omega) _)) (zE (zL D) (BX (k:=fin.length) (by rw [hy];exact yj _ _)))))),o.trans (zU _ _)⟩
theorem BZ {f:PV->PV->Option Bool}:∀{xs:An},(∀x∈xs,f x x=some true)->cY f xs xs=some true
 | [],_=>rfl
 | x::xs,h=>by
  have h1:=h x (y0 ..)
  have h2:=BZ (f:=f) (xs:=xs) λy hy=>h y (jm _ hy)
  unfold cY
  simp [h1,h2]
inductive hU:Nat->PV->Prop
 | int (n:Nat) (i:Int):hU n (.int i)
 | str (n:Nat) (z:Str):hU n (.str z)
 | tup (n:Nat) (xs:An):(∀x∈xs,hU n x)->hU (n+1) (.tup xs)
theorem IF {st:aa}:∀{n:Nat}{x:PV}{m:Nat},hU n x->n<m->eqT st m x x=some true
 | n,_,0,_,h=>by omega
 | n,_,m+1,.int _ i,_=>by simp [eqT]
 | n,_,m+1,.str _ z,_=>by simp [eqT]
 | n+1,_,m+1,.tup _ xs h,hm=>by
  show cY (eqT st m) xs xs=some true
  exact BZ λx hx=>IF (h x hx) (by omega)
theorem IG {n:Nat}:∀{xs:An},(∀x∈xs,Mi.plain x=true/\dep x<=n/\a_ x x=true)->bo xs=true/\cg xs<=n/\cW xs xs=true
 | [],_=>⟨rfl,by simp [cg],by rw [cW]⟩
 | x::xs,h=>by
  obtain ⟨a,b,c⟩:=h x (y0 ..)
  obtain ⟨a',b',c'⟩:=IG λy hy=>h y (jm _ hy)
  exact ⟨by rw [bo,a,a'];rfl,by rw [cg];omega,by rw [cW,c,c'];rfl⟩
theorem B6:∀{n:Nat}{x:PV},hU n x->Mi.plain x=true/\dep x<=n/\a_ x x=true
 | n,_,.int _ i=>⟨rfl,by simp [dep],by simp [a_]⟩
 | n,_,.str _ z=>⟨rfl,by simp [dep],by simp [a_]⟩
 | n+1,_,.tup _ xs h=>by
  obtain ⟨a,b,c⟩:=IG (n:=n) λx hx=>B6 (h x hx)
  exact ⟨by rw [Mi.plain];exact a,by rw [dep];omega,by rw [a_];exact c⟩
theorem IH {n:Nat}{x:PV}(h:hU n x) (hn:n<=100) (s:aa):wM x x s=.ok (.bl false) s:=by
 obtain ⟨a,b,c⟩:=B6 h
 unfold wM
 rw [zF ⟨a,a,by omega⟩,c]
 rfl
theorem Vm {n:Nat}{x:PV}(h:hU n x) (hn:n<=100) (s:aa):wF x x s=.ok (.bl true) s:=by
 unfold wF
 rw [IF h (by omega)]
def B7 (f:Str) (b:Int) (zs:Ad) (gs:List Int):hU 2 (.tup [.str f,.int b,.tup (zs.map PV.str),.tup (gs.map PV.int)]):=by
 refine .tup 1 _ λx hx=>?_
 simp only [yC,List.not_mem_nil,wt] at hx
 rcases hx with e|e|e|e<;>rw [e]
 ·exact .str _ _
 ·exact .int _ _
 ·exact .tup 0 _ λy hy=>by obtain ⟨z,_,rfl⟩:=jv.mp hy;exact .str _ _
 ·exact .tup 0 _ λy hy=>by obtain ⟨z,_,rfl⟩:=jv.mp hy;exact .int _ _
def II {met:List Pr}{s:aa}{m:Nat}(h:s[m]?=some (.lst (met.map bE))) (p:Pr):yH true (bE p) (.ref m) s=.ok (.bl (!decide (p∈met))) s:=by
 have e:met.map bE=(met.map cJ).map aO:=by rw [List.map_map];rfl
 rw [e] at h
 simp only [yH,h]
 rw [zF ⟨BK (cJ p),BL _,ja (BM _) (by omega)⟩]
 have:=Im (cJ p) (met.map cJ)
 rw [show ((met.map cJ).map aO).any (λy=>a_ y (.tup [.str p.1,.int p.2]))=a5 (cJ p) (met.map cJ) from this,BE]
 cases decide (p∈met)<;>rfl
theorem uA {Fs:List FD}{ks:Ag}(P:bC Fs) {i:Nat}{met fin:List Pr}(R:fG Fs ks i met fin):met.Nodup->(∀x∈met,Gd Fs x)->(∃t,fin=met++t)/\fin.Nodup/\(∀x∈fin,Gd Fs x)/\i<=fin.length:=by
 induction R with
 | done met=>intro nd g;exact ⟨⟨[],by simp⟩,nd,g,ym _⟩
 | step i met fin p hp _ ih =>
  intro nd g
  obtain ⟨⟨t,e⟩,a,b,c⟩:=ih (BA nd) (λx hx=>(BB hx).elim (g x) (BD P x))
  obtain ⟨t',e'⟩:=HX (l:=bJ Fs ks p) (met:=met)
  exact ⟨⟨t'++t,by rw [e,e',kK]⟩,a,b,by omega⟩
noncomputable abbrev aZ:Aj:=(zY (mB (ze (yH true) (zC (zd (ze zv (zc 10) (Ar 0)) (zd (zc 11) zo))) (zc 7)))
  (yK (yF yJ (zc 7) (zC (zd (ze zv (zc 10) (Ar 0)) (zd (zc 11) zo)))))
  yd)
theorem IJ {x0 x1 x2 x3 x4 x5 x6 z8 z9 z12:Ao}{m7 r:Nat}(ne:m7≠r) {aims:List (Str×List PV)}{gs:List Int}:∀(k i fuel:Nat) (met:List Pr) (s:aa) (z10 z11:Ao),i+k=(((aims.map (·.1)).zip gs)).length->k<fuel->s[r]?=some (.lst (aims.map λp=>eh (some p)))->s[m7]?=some (.lst (met.map bE))->met.length+k<=90000 ->
  ∃s' cM cN,gW (g2 10 11) aZ r (gs.map PV.int) fuel i [x0,x1,x2,x3,x4,x5,x6,At m7,z8,z9,z10,z11,z12] s=.ok (.nx [x0,x1,x2,x3,x4,x5,x6,At m7,z8,z9,cM,cN,z12]) s'/\s'[m7]?=some (.lst (((((aims.map (·.1)).zip gs).drop i).foldl ba met).map bE))/\b0 m7 s s'
 | 0,i,fuel,met,s,z10,z11,hk,hf,hr,hm,hl=>by
  obtain ⟨f,rfl⟩:∃f,fuel=f+1:=⟨fuel-1,by omega⟩
  refine ⟨s,z10,z11,?_,by rw [lS (by omega)];exact hm,b0.refl _ _⟩
  unfold gW
  rw [yr hr]
  rw [List.length_zip,yI] at hk
  by_cases h:i<aims.length
  ·rw [yM,yM,yx h,show gs[i]?=none from pd (by omega)]
   rfl
  ·rw [yM,show aims[i]?=none from pd (by omega)]
   rfl
 | k+1,i,fuel,met,s,z10,z11,hk,hf,hr,hm,hl=>by
  obtain ⟨f,rfl⟩:∃f,fuel=f+1:=⟨fuel-1,by omega⟩
  have SJ:=hk
  rw [List.length_zip,yI] at hk
  have h1:aims[i]?=some (aims[i]'(by omega)):=yx (by omega)
  have h2:gs[i]?=some (gs[i]'(by omega)):=yx (by omega)
  generalize aims[i]'(by omega)=a at h1
  generalize gs[i]'(by omega)=g at h2
  obtain ⟨fz,as⟩:=a
  have hz:((aims.map (·.1)).zip gs)[i]?=some (fz,g):=by rw [List.getElem?_zip_eq_some];exact ⟨by rw [yM,h1];rfl,h2⟩
  have qM:((aims.map (·.1)).zip gs).drop i=(fz,g)::((aims.map (·.1)).zip gs).drop (i+1):=by
   rw [wa (by omega)]
   congr 1
   exact (yt.mp hz).2
  have IN:=II hm (fz,g)
  have go:∃s',aZ [x0,x1,x2,x3,x4,x5,x6,At m7,z8,z9,some (.tup [.str fz,.tup as]),some (.int g),z12] s=.ok (.nx [x0,x1,x2,x3,x4,x5,x6,At m7,z8,z9,some (.tup [.str fz,.tup as]),some (.int g),z12]) s'/\s'[m7]?=some (.lst ((ba met (fz,g)).map bE))/\b0 m7 s s':=by
   unfold ba
   by_cases hp:(fz,g)∈met
   ·rw [wc hp] at IN
    rw [zF hp]
    exact ⟨s,yD (yc (zp (zX (zT (zp (zf rfl) rfl yN) (zf rfl)) (by simp)) (zf rfl) IN)),hm,b0.refl _ _⟩
   ·rw [jU hp] at IN
    rw [zP hp]
    have A:=wz (y:=bE (fz,g)) hm (by simp;omega)
    refine ⟨_,yR (yc (zp (zX (zT (zp (zf rfl) rfl yN) (zf rfl)) (by simp)) (zf rfl) IN)) (jW (jL (zf rfl) hm (zX (zT (zp (zf rfl) rfl yN) (zf rfl)) (by simp)) A)),?_,kH⟩
    rw [je (yk hm),ju]
    rfl
  obtain ⟨s1,E1,g1,b1⟩:=go
  have al:(ba met (fz,g)).length<=met.length+1:=by unfold ba;split<;>simp
  obtain ⟨s',cM,cN,E,w1,w2⟩:=IJ (x0:=x0) (x1:=x1) (x2:=x2) (x3:=x3) (x4:=x4) (x5:=x5) (x6:=x6) (z8:=z8) (z9:=z9) (z12:=z12) ne (aims:=aims) (gs:=gs) k (i+1) f (ba met (fz,g)) s1 (some (.tup [.str fz,.tup as])) (some (.int g)) (by omega) (by omega) (b1 _ _ (yT ne) hr) g1 (by omega)
  refine ⟨s',cM,cN,?_,by rw [qM];exact w1,b1.trans w2⟩
  unfold gW
  rw [yr hr,yM,yM,h1,h2]
  show (aZ [x0,x1,x2,x3,x4,x5,x6,At m7,z8,z9,some (.tup [.str fz,.tup as]),some (.int g),z12] s).bind _=_
  rw [E1,zG]
  exact E
def B8 {F0:FD}{Fr:List FD}(P:bC (F0::Fr)) (bits:Int) (h0:0<=bits) (h1:bits<2 ^ F0.ps.length) (ws:Ag) (hw:ws.length<=1000) (st:aa):∃fin s1,oM [.tup ((F0::Fr).map FD.v),.int bits,.tup (ws.map aO)] st=.ok (.tup (fin.map (aV (F0::Fr) ws))) s1/\fG (F0::Fr) ws 0 [(F0.nz,bits)] fin/\Old st s1:=by
 obtain ⟨ks,fin,s1,E,R,hm,o⟩:=UK P bits h0 h1 ws hw st
 rw [(Ii hm).1] at E
 exact ⟨fin,s1,E,UR hm R,o⟩
noncomputable abbrev eV (sv pv:PV) (c sz b:Int) (hv fv:PV) (z7 z8 z9 z10 z11 z12:Ao):zm:=[some sv,some pv,some (.int c),some (.int sz),some (.int b),some hv,some fv,z7,z8,z9,z10,z11,z12]
noncomputable abbrev bV:Aj:=(zw (zY (mB (ze (yH true) (zC (zd (ze zv (zc 8) (Ar 0)) (zd (ze zv (zc 8) (Ar 1)) zo))) (zc 7)))
  (yb (mC (.bl false)))
  yd)
  (zw (zY (mB (ze wM (zc 8) (zu qU (zd (zc 1) (zd (ze zv (zc 8) (Ar 0)) (zd (ze zv (zc 8) (Ar 1)) (zd (zc 5) zo)))))))
  (yb (mC (.bl false)))
  yd)
  (zw (zH 9 (zu oN (zd (zu lH (zd (zc 1) (zd (ze zv (zc 8) (Ar 0)) zo))) zo)))
  (qE (zd (zc 9) (zd (ze zv (zc 8) (Ar 3)) zo)) (g2 10 11)
  aZ))))
theorem Vn {Fs:List FD}(P:bC Fs) {ws:Ag}{p:Pr}(g:Gd Fs p) {sv:PV}{c sz b:Int}{fv:PV}{m7:Nat}{z9 z10 z11 z12:Ao}{met:List Pr}{s:aa}(hm:s[m7]?=some (.lst (met.map bE))) (hp:p∈met) (hl:met.length<=20000) :
  ∃s' y9 cM cN,bV (eV sv (.tup (Fs.map FD.v)) c sz b (.tup (ws.map aO)) fv (At m7) (some (aV Fs ws p)) z9 z10 z11 z12) s=.ok (.nx (eV sv (.tup (Fs.map FD.v)) c sz b (.tup (ws.map aO)) fv (At m7) (some (aV Fs ws p)) y9 cM cN z12)) s'/\s'[m7]?=some (.lst (((bJ Fs ws p).foldl ba met).map bE)):=by
 obtain ⟨F,hF,e,h0,e1,e2⟩:=o8 P (ws:=ws) g
 obtain ⟨f,bb⟩:=p
 simp only at e h0 e1 e2
 subst e
 rw [e1,e2]
 have IN:=II hm (F.nz,bb)
 rw [wc hp] at IN
 obtain ⟨s1,E1,o1⟩:=IB P hF bb h0 ws s
 have NE:=IH (B7 F.nz bb (d_ Fs ws F bb).1 (d_ Fs ws F bb).2) (by decide) s1
 have BY:=BI P hF s1
 obtain ⟨a,s2,EA,hA,aN,o2⟩:=Ib P hF s1
 have IK:=o1 _ _ hm
 have am:m7<a:=aN _ _ IK
 have xY:=o2 _ _ IK
 have nl:=(P.fn F hF).nl
 have zl:(cV Fs ws F bb).length<=100:=by
  have h1:(cV Fs ws F bb).length<=((a8 F.ls).map (·.1)).length:=by unfold cV;rw [List.length_zip];omega
  have h2:(a8 F.ls).length<=F.ls.length:=ja (List.length_filterMap_le _ _) (by simp)
  rw [yI] at h1
  omega
 have WK:(((a8 F.ls).map (·.1)).zip (d_ Fs ws F bb).2).length<=100:=zl
 obtain ⟨s3,cM,cN,E3,w1,_⟩:=IJ (x0:=some sv) (x1:=some (.tup (Fs.map FD.v))) (x2:=some (.int c)) (x3:=some (.int sz)) (x4:=some (.int b)) (x5:=some (.tup (ws.map aO))) (x6:=some fv) (z8:=some (ck Fs ws F bb)) (z9:=At a) (z12:=z12) (show m7≠a by omega) (aims:=a8 F.ls) (gs:=(d_ Fs ws F bb).2) _ 0 (lim+1) met s2 z10 z11 (Nat.zero_add _) (by simp only [lim];omega) hA xY (by omega)
 rw [List.drop_zero] at w1
 have FZ:(qE (zd (zc 9) (zd (ze zv (zc 8) (Ar 3)) zo)) (g2 10 11) aZ) (eV sv (.tup (Fs.map FD.v)) c sz b (.tup (ws.map aO)) fv (At m7) (some (ck Fs ws F bb)) (At a) z10 z11 z12) s2=.ok (.nx (eV sv (.tup (Fs.map FD.v)) c sz b (.tup (ws.map aO)) fv (At m7) (some (ck Fs ws F bb)) (At a) cM cN z12)) s3:=by
  unfold qE
  rw [zT (zf rfl) (zp (zf rfl) rfl iN),zG]
  show yi s2 a _=_
  rw [yr hA]
  exact E3
 exact ⟨s3,_,_,_,zB (yD (yc (zp (zX (zT (zp (zf rfl) rfl yN) (zp (zf rfl) rfl js)) (by simp)) (zf rfl) IN))) (zB (yD (yc (zp (zf rfl) (zE (wo (zf rfl) (zp (zf rfl) rfl yN) (zp (zf rfl) rfl js) (zf rfl)) E1) NE))) (zB (zN (zE (zL (zE (zT (zf rfl) (zp (zf rfl) rfl yN)) BY)) EA)) FZ)),w1⟩
theorem zu3 (ns:List Int):∃st,GK [.frl (ns.map .int)] []=.ok (.bl true) st:=by
 obtain ⟨hs,fs,s1,E1,PR,_⟩:=Th ns []
 obtain ⟨Fs0,rfl,P0⟩:=T_ PR
 obtain ⟨F0,Fr,rfl⟩:∃F0 Fr,Fs0=F0::Fr:=by
  cases Fs0 with
  | nil=>have:=P0.ok.pos;simp at this
  | cons F0 Fr=>exact ⟨F0,Fr,rfl⟩
 have P:=P0
 let Fs:=F0::Fr
 have uB:F0∈Fs:=y0 ..
 have np:=(P.fn F0 uB).np
 let sv:PV:=.frl (ns.map .int)
 let pv:PV:=.tup (Fs.map FD.v)
 obtain ⟨c0,s2,E2,o2⟩:=iO ns 5 (by decide) s1
 let c:=jD c0 8
 let sz:Int:=2 ^ F0.ps.length
 have IL:sz=((2 ^ F0.ps.length:Nat):Int):=by simp [sz]
 have WL:0<sz:=Int.pow_pos (by decide)
 have Vo:sz.natAbs<2 ^ 200:=by
  show ((2:Int) ^ F0.ps.length).natAbs<2 ^ 200
  rw [Int.natAbs_pow]
  exact Nat.pow_lt_pow_right (by decide) (by omega)
 obtain ⟨bn,Vp,IM⟩:=bz c (2 ^ F0.ps.length) (Nat.pow_pos (by decide))
 rw [<-IL] at IM
 have blt:(bn:Int)<sz:=by rw [IL];exact_mod_cast Vp
 obtain ⟨ws,s3,E3,hw,o3⟩:=Vj P (jD c sz) s2
 obtain ⟨fin,s4,E4,R,o4⟩:=B8 P (bn:Int) (by omega) blt ws (by omega) s3
 have uv:[(F0.nz,(bn:Int))].Nodup:=by simp
 have g0:∀x∈[(F0.nz,(bn:Int))],Gd Fs x:=λx hx=>by rw [jN.mp hx];exact ⟨F0,uB,rfl,by simp,blt⟩
 obtain ⟨⟨t,et⟩,nd,g,_⟩:=uA P R uv g0
 have fl:=rA P nd g
 have f0:0<fin.length:=by rw [et];simp
 obtain ⟨s5,E5,o5⟩:=IE P (ws:=ws) g f0 (by omega) s4
 let s6:=s5++[SO.lst [bE (F0.nz,(bn:Int))]]
 obtain ⟨e',s7,F7,⟨y8,y9,cM,cN,he⟩,met,Vq,R7,Vr,g7⟩:=dg (g:=gN 8) (body:=bV) (fin.map (aV Fs ws)) (λi e s=>(∃y8 y9 cM cN,e=eV sv pv c sz (bn:Int) (.tup (ws.map aO)) (.tup (fin.map (aV Fs ws))) (At s5.length) y8 y9 cM cN none)/\∃met:List Pr,s[s5.length]?=some (.lst (met.map bE))/\fG Fs ws i met fin/\met.Nodup/\∀x∈met,Gd Fs x) (λi x e s hx ⟨⟨y8,y9,cM,cN,he⟩,met,hm,Ri,B9,gm⟩=>by
  subst he
  rw [yM] at hx
  obtain ⟨p,hp,rfl⟩:=Option.map_eq_some_iff.mp hx
  have hi:i<fin.length:=(yt.mp hp).1
  obtain ⟨⟨t',B_⟩,_,_,_⟩:=uA P Ri B9 gm
  rcases uz Ri with ⟨a1,a2⟩|⟨p',hp',Rn⟩
  ·rw [a2] at hi;omega
  ·have:p'=p:=by
    have il:=(yt.mp hp').1
    rw [B_,gi il,hp'] at hp
    exact Option.some.inj hp
   subst this
   have ml:=rA P B9 gm
   obtain ⟨s',z9,z10,z11,E,w⟩:=Vn P (ws:=ws) (gm p' (wb hp')) (sv:=sv) (c:=c) (sz:=sz) (b:=(bn:Int)) (fv:=.tup (fin.map (aV Fs ws))) (z9:=y9) (z10:=cM) (z11:=cN) (z12:=none) hm (wb hp') (by omega)
   exact ⟨eV sv pv c sz (bn:Int) (.tup (ws.map aO)) (.tup (fin.map (aV Fs ws))) (At s5.length) (some (aV Fs ws p')) y9 cM cN none,_,s',rfl,E,⟨_,_,_,_,rfl⟩,_,w,Rn,BA B9,λx hx=>(BB hx).elim (gm x) (BD P x)⟩) fin.length 0 (eV sv pv c sz (bn:Int) (.tup (ws.map aO)) (.tup (fin.map (aV Fs ws))) (At s5.length) none none none none none) s6 (by simp) ⟨⟨none,none,none,none,rfl⟩,[(F0.nz,(bn:Int))],yj _ _,R,uv,g0⟩
 subst he
 rw [yI] at R7
 have mf:met=fin:=by
  rcases uz R7 with ⟨_,a⟩|⟨p,hp,_⟩
  ·exact a.symm
  ·obtain ⟨⟨t',B_⟩,_,_,_⟩:=uA P R7 Vr g7
   have:=(yt.mp hp).1
   have h2:fin.length=met.length+t'.length:=by rw [B_];simp
   omega
 subst mf
 have Vs:(yV (yG (zc 6)) (gN 8) bV) (eV sv pv c sz (bn:Int) (.tup (ws.map aO)) (.tup (met.map (aV Fs ws))) (At s5.length) none none none none none) s6=.ok (.nx (eV sv pv c sz (bn:Int) (.tup (ws.map aO)) (.tup (met.map (aV Fs ws))) (At s5.length) y8 y9 cM cN none)) s7:=by
  rw [wN,jz,zf rfl,zG]
  show (Res.ok (Sq.im (met.map (aV Fs ws))) s6).bind _=_
  rw [zG]
  exact F7
 have C9:=lB (fe:=(zC (zd (ze zv (zc 0) (Ar 0)) (zd (ze zv (zc 0) (Ar 1)) zo)))) (env:=eV sv pv c sz (bn:Int) (.tup (ws.map aO)) (.tup (met.map (aV Fs ws))) (At s5.length) y8 y9 cM cN none) (f:=λv=>match v with | .tup (a::b::_)=>.tup [a,b]|_=>.non) (st:=s7) (met.map (aV Fs ws)) (λx hx=>by
  obtain ⟨p,hp,rfl⟩:=jv.mp hx
  obtain ⟨F,hF,e,_,e1,_⟩:=o8 P (ws:=ws) (g p hp)
  rw [e1]
  exact zX (zT (zp (zf rfl) rfl yN) (zp (zf rfl) rfl js)) (by simp)) []
 have e9:([]:An)++(met.map (aV Fs ws)).map (λv=>match v with | .tup (a::b::_)=>.tup [a,b]|_=>.non)=met.map bE:=by
  rw [List.nil_append,List.map_map]
  refine List.map_congr_left λp hp=>?_
  obtain ⟨F,hF,e,_,e1,_⟩:=o8 P (ws:=ws) (g p hp)
  show (match aV Fs ws p with | .tup (a::b::_)=>PV.tup [a,b]|_=>.non)=_
  rw [e1]
  show PV.tup [.str F.nz,.int p.2]=_
  rw [e]
 rw [e9] at C9
 let s8:=s7++[SO.lst (met.map bE)]
 have D9:(jd (yG (zc 6)) (zC (zd (ze zv (zc 0) (Ar 0)) (zd (ze zv (zc 0) (Ar 1)) zo)))) (eV sv pv c sz (bn:Int) (.tup (ws.map aO)) (.tup (met.map (aV Fs ws))) (At s5.length) y8 y9 cM cN none) s7=.ok (.ref s7.length) s8:=by
  rw [iI,jz,zf rfl,zG]
  show (Res.ok (Sq.im (met.map (aV Fs ws))) s7).bind _=_
  rw [zG,iJ,zF (by simp [lim];omega)]
  exact C9
 have N9:y_ (.ref s7.length) (.ref s5.length) s8=.ok (.bl false) s8:=by
  show yi s8 s7.length _=_
  rw [yr (yj _ _),yr (zU _ _ _ _ Vq)]
  have:cY eq1 (met.map bE) (met.map bE)=some true:=BZ λx hx=>by
   obtain ⟨p,_,rfl⟩:=jv.mp hx
   have sm:hU 1 (bE p):=.tup 0 _ λy hy=>by
    simp only [yC,List.not_mem_nil,wt] at hy
    rcases hy with e|e<;>rw [e]
    ·exact .str _ _
    ·exact .int _ _
   obtain ⟨a1,a2,a3⟩:=B6 sm
   unfold eq1
   rw [zF ⟨a1,a1,by omega⟩,a3]
  rw [this]
  rfl
 let b2:Int:=sz-1-(bn:Int)
 have WM:(0:Int)<=(bn:Int):=Int.natCast_nonneg _
 obtain ⟨fin2,s9,E9,R9,o9⟩:=B8 P b2 (by show 0<=sz-1-(bn:Int);omega) (by show sz-1-(bn:Int)<sz;omega) [] (by simp) s8
 have IQ:∀x∈[(F0.nz,b2)],Gd Fs x:=λx hx=>by rw [jN.mp hx];exact ⟨F0,uB,rfl,by show 0<=sz-1-(bn:Int);omega,by show sz-1-(bn:Int)<sz;omega⟩
 obtain ⟨⟨t2,kx⟩,A_,IU,_⟩:=uA P R9 (by simp) IQ
 have WN:=rA P A_ IU
 obtain ⟨Vt,ux,WO⟩:=IE P (ws:=[]) IU (by rw [kx];simp) (by omega) s9
 obtain ⟨F',IV,uw,_,pQ,_⟩:=o8 P (ws:=[]) (IQ (F0.nz,b2) (jN.mpr rfl))
 have FF:F'=F0:=by
  have h1:=oZ P.nd IV
  have h2:=oZ P.nd uB
  rw [uw] at h1
  exact Option.some.inj (h1.symm.trans h2)
 subst FF
 have IW:fin2.map (aV Fs [])=ck Fs [] F' b2::t2.map (aV Fs []):=by rw [kx,ju,List.map_singleton,pQ];rfl
 rw [IW] at E9 ux
 obtain ⟨IY,BG,WQ⟩:=IB P IV b2 (by show 0<=sz-1-(bn:Int);omega) [] Vt
 have Vu:=IH (B7 F'.nz b2 (d_ Fs [] F' b2).1 (d_ Fs [] F' b2).2) (by decide) IY
 obtain ⟨uZ,IZ,Vv,Vw,_⟩:=B8 P (bn:Int) (by omega) blt ws (by omega) IY
 have f3:uZ=met:=US Vw R
 subst f3
 have SM:hU 3 (.tup (uZ.map (aV Fs ws))):=.tup 2 _ λx hx=>by
  obtain ⟨p,hp,rfl⟩:=jv.mp hx
  obtain ⟨F,hF,e,_,e1,_⟩:=o8 P (ws:=ws) (g p hp)
  rw [e1]
  exact B7 _ _ _ _
 have Vx:=Vm SM (by decide) IZ
 refine ⟨IZ,yg rfl (zB (zN (zE (zL (zf rfl)) E1)) (zB (zN (zp (zE (zT (zf rfl) rfl) E2) rfl (wH _ _ (by decide) (by decide)))) (zB (zN (zp rfl (zE (zL (zp (zp (zf rfl) rfl yN) rfl js)) ((sX _).trans (by rw [yI]))) (Bw _ (by omega) _))) (zB (zN (zp (zf rfl) (zf rfl) ((jj _ _ (by omega)).trans (by rw [show yY c sz=(bn:Int) from IM])))) (zB (zN (zE (zT (zp (zf rfl) (zf rfl) (wH _ _ (by omega) Vo)) (zf rfl)) E3)) (zB (zN (zE (yL (zf rfl) (zf rfl) (zf rfl)) E4)) (zB (yD (mS (b:=true) (yc (zE (zL (zf rfl)) E5)))) (zB (zN (jh (zL (zX (zT (zp (zp (zf rfl) rfl yN) rfl yN) (zf rfl)) (by simp))) (by simp))) (zB Vs (zB (yD (yc (zp D9 (zf rfl) N9))) (zB (zN (zE (yL (zf rfl) (zp (zp (zf rfl) rfl (wG _ _)) (zf rfl) (wG _ _)) (zX jt (by simp))) E9)) (zB (yD (mS (b:=true) (yc (zE (zL (zf rfl)) ux)))) (zB (yD (yc (zp (zp (zf rfl) rfl yN) (zE (wo (zf rfl) (zp (zp (zf rfl) rfl yN) rfl yN) (zp (zp (zf rfl) rfl (wG _ _)) (zf rfl) (wG _ _)) (zX jt (by simp))) BG) Vu))) (yn (zp (zE (yL (zf rfl) (zf rfl) (zf rfl)) Vv) (zf rfl) Vx)))))))))))))))⟩
end FK42
open PySem PySem.W PyProof.Rows
set_option maxHeartbeats 0
namespace PySem.W.Fast
def tw14215239613677092358:=()
def tw15130929982703163573:=()
local macro_rules
|`(command|#print $s:str)=>do
 let c<-(s.getString.splitOn " ").toArray.flatMapM λw=>do
  let [p,a,b]:=w.splitOn "_"|Lean.Macro.throwUnsupported
  (Array.range (b.toNat!+1-a.toNat!)).mapM λk=>do
   let n:=Lean.mkIdent (.mkSimple s!"tw{((`hdT).str s!"{p}_{a.toNat!+k}").hash}")
   `(command|def $n := ())
 return Lean.mkNullNode c
#print "o_43_46 o_49_375 heap_39_39 heap_46_46 heap_376_376 tree_47_47 tree_131_131 tree_182_182 tree_264_264 tree_348_348 tree_375_375 sts_49_49 sts_132_132 sts_183_183 sts_265_265 sts_349_349 env_41_41 view_39_39"
end PySem.W.Fast
open_top hdT for PySem.Challenge.rw_foreknown_k42_best_form_by_form
theorem PySem.Challenge.cw_foreknown_k42_best_form_by_form_holds : PySem.Challenge.rw_foreknown_k42_best_form_by_form.Holds :=
 hdT (by
 k_fill
 refine Mi.walkM (l:=PySem.Challenge.rw_foreknown_k42_best_form_by_form) (k:=18) (x := "_law_script") rfl rfl ⟨rfl,by decide,by decide⟩ (λw h Y=>PySem.W.kIn_of Y) ?F
 case F =>
  intro w mg fa h KX G hmg
  have n_Holding:Mi.NwF (L2.KOf KX) mg "Holding" "Holding.__init__" FK42.zfu ["self", "program", "held"]:=by
   dsimp only [L2.KOf]
   refine' Mi.zp8 KX G ?aC ?mk ?kc ?a ?i ?l ?c ?k ?b
   case aC|mk|kc|a|i|l|c|k=>k_is
   (case b=>exact λ_ _ _ _ _ _ us hl=>match us,hl with|[_,_,_],_=>rfl)
  have m_Holding_goal_of:Mi.MtF (L2.KOf KX) mg "Holding" "goal_of" "Holding.goal_of" FK42.zfx ["self", "aim", "later"]:=by
   dsimp only [L2.KOf]
   refine' Mi.zeX KX G ?aC ?pg ?hd ?po ?sa ?a ?i ?l ?c ?k ?b
   case aC|pg|hd|po|sa|a|i|l|c|k=>k_is
   (case b=>exact λ_ _ _ _ _ _ us hl=>match us,hl with|[_,_,_],_=>rfl)
  have m_Holding_makes_later:Mi.MtF (L2.KOf KX) mg "Holding" "makes_later" "Holding.makes_later" FK42.zfy ["self", "name", "step", "later"]:=by
   dsimp only [L2.KOf]
   refine' Mi.zeX KX G ?aC ?pg ?hd ?po ?sa ?a ?i ?l ?c ?k ?b
   case aC|pg|hd|po|sa|a|i|l|c|k=>k_is
   (case b=>exact λ_ _ _ _ _ _ us hl=>match us,hl with|[_,_,_,_],_=>rfl)
  have m_Holding_best_form:Mi.MtF (L2.KOf KX) mg "Holding" "best_form" "Holding.best_form" FK42.zfz ["self", "function", "bits"]:=by
   dsimp only [L2.KOf]
   refine' Mi.zeX KX G ?aC ?pg ?hd ?po ?sa ?a ?i ?l ?c ?k ?b
   case aC|pg|hd|po|sa|a|i|l|c|k=>k_is
   (case b=>exact λ_ _ _ _ _ _ us hl=>match us,hl with|[_,_,_],_=>rfl)
  have d_bits_by_name:Mi.FldF (L2.KOf KX) mg "bits_by_name" FK42.insOf FK42.excOf:=by
   refine ⟨λc hc=>?_,λc hc=>?_⟩
   ·simp [FK42.insOf,or_assoc] at hc
    rcases hc with rfl
    ·dsimp only [L2.KOf]
     refine' Mi.zib KX G ?aC ?pg ?hd ?po ?sa ?na
     case aC|pg|hd|po|sa|na=>k_is
   ·simp [FK42.excOf] at hc
  have d_pairs:Mi.FldF (L2.KOf KX) mg "pairs" FK42.insOf FK42.excOf:=by
   refine ⟨λc hc=>?_,λc hc=>?_⟩
   ·simp [FK42.insOf,or_assoc] at hc
    rcases hc with rfl
    ·dsimp only [L2.KOf]
     refine' Mi.zib KX G ?aC ?pg ?hd ?po ?sa ?na
     case aC|pg|hd|po|sa|na=>k_is
   ·simp [FK42.excOf] at hc
  have is:Mi.IsF (L2.KOf KX) mg FK42.isT:=by
   exact Mi.zqB rfl rfl rfl
  have T:FK42.Txt w (L2.KOf KX) mg:=by
   constructor
   case n_Holding=>exact n_Holding
   case m_Holding_goal_of=>exact m_Holding_goal_of
   case m_Holding_makes_later=>exact m_Holding_makes_later
   case m_Holding_best_form=>exact m_Holding_best_form
   case d_bits_by_name=>exact d_bits_by_name
   case d_pairs=>exact d_pairs
   case is=>exact is
   all_goals first
    | (show Mi.FnF _ _ _ _ [_];dsimp only [L2.KOf];refine' Mi.zcG KX G ?a ?l ?c ?k ?b;(case a|l|c|k=>k_is);(case b=>exact λ_ _ _ _ _ _ us hl=>match us,hl with|[_],_=>rfl))
    | (show Mi.FnF _ _ _ _ [_,_];dsimp only [L2.KOf];refine' Mi.zcG KX G ?a ?l ?c ?k ?b;(case a|l|c|k=>k_is);(case b=>exact λ_ _ _ _ _ _ us hl=>match us,hl with|[_,_],_=>rfl))
    | (show Mi.FnF _ _ _ _ [_,_,_];dsimp only [L2.KOf];refine' Mi.zcG KX G ?a ?l ?c ?k ?b;(case a|l|c|k=>k_is);(case b=>exact λ_ _ _ _ _ _ us hl=>match us,hl with|[_,_,_],_=>rfl))
    | (show Mi.FnF _ _ _ _ [_,_,_,_];dsimp only [L2.KOf];refine' Mi.zcG KX G ?a ?l ?c ?k ?b;(case a|l|c|k=>k_is);(case b=>exact λ_ _ _ _ _ _ us hl=>match us,hl with|[_,_,_,_],_=>rfl))
    | (show Mi.FnF _ _ _ _ [_,_,_,_,_,_];dsimp only [L2.KOf];refine' Mi.zcG KX G ?a ?l ?c ?k ?b;(case a|l|c|k=>k_is);(case b=>exact λ_ _ _ _ _ _ us hl=>match us,hl with|[_,_,_,_,_,_],_=>rfl))
    | (refine' Mi.zqa KX G ?a;case a=>k_is)
  exact Mi.zp9 T.f_law hmg (λ_ _ _ _ _ _ _=>rfl) (λf fd F base=>FK42.ztb T F) (λns _=>FK42.zu3 ns))
